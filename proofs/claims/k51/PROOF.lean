import PyProof.Rows.All
import Wide.All
import OpenK.AllK
import Wide.FinOn
import HandS.ForMost
import HandS.IsInst
import KE.GoesEnum
import HandS.Star
import HandS.Defaults
import HandS.MakeKw
import HandS.MakeKwOnly
import HandS.Property
import HandS.TupAny
import HandS.TupMul
import HandS.ClsMeth
import HandS.Zip
import HandS.OwnEq
import PyProof.InstNe
import HandS.Deep
import HandS.Style
import HandS.Dict
import KE.KDictDisplayH
import HandS.FStr
import HandS.NoneIn
import HandS.CallLocal
import PyProof.Draws
import KE.GoesMore
import HandS.Iter
import KE.KExcSuper
import PyProof.ExcBaseAll.ValueError
import HandS.ExcInit
import HandS.Nested
import HandS.ExcField
import HandS.TryMany
import PyProof.ListMulRoad
import PyProof.FactsAll.tuple_2
import KE.KSuper
import KE.KSuperObj
import KE.KStateDown
import HandS.Head0
import HandS.Head1
import HandS.Head2
import HandS.HeadEnd
import HandS.HeadHook1
import HandS.HeadHook2
import KE.KExcIs
import KE.KTypeName
import HandS.ExcIs
import PyProof.ReprNest
import PyProof.ReprHeadsTuple
import HandS.FStrTup
import KE.KTryMore
import PyProof.StrLawsRepr
import PyProof.FitsInt
import HandS.WordsExc
import KE.KLam
import HandS.Lambda
import HandS.HeadHook4
import HandS.EndTab
import HandS.HeadWalk
import HandS.Rev
import KE.KExcInit
import PyProof.ExcBaseAll.LookupError
import PyProof.ExcBaseAll.IndexError
import HandS.SortInts
import HandS.DictTup
import KE.KDictWalk
import PyProof.SumWalkG
import PyProof.Walk
import PyProof.WalkLemmas
import HandS.Conv
import HandS.TupSets
import HandS.SetFor
import HandS.Strs
import KE.GoesRaise
import PyProof.StrBlock2
import PySem.Challenge.RW_lowturns_k51_whole_relabellings_lead
set_option Elab.async false
set_option linter.all false
set_option maxRecDepth 100000
set_option maxHeartbeats 4000000
/-! The terms of bodies by their syntax: what a def's context knows of its names (Nm), rules over it, and the steps that choose a rule. -/
namespace Tw
open PySem PySem.Spec PyProof.Rows L2

structure Df (P : Program) (w : World) (K : PySem.W.Frag) (mg : Str → Option Value) (base : Heap) (k : Nat) (x : Str) (ps : List Str) (sp : Sp) : Prop where
  ex : ∃ f fd, mg x = some (.ref f) ∧ PySem.W.keepIn K (.ref f) = true ∧ Binds K fd ps [] ∧ FnOk P w K mg base CX0 k f fd ps sp
def tD (sp : Sp) (t : TA) : TE := fun σ H Q => t σ H fun vs H1 => sp vs H1 Q E0

/-- names that are read, with their slots; names that are stored; names of the module and built-in ones -/
structure Nm (P : Program) (w : World) (K : PySem.W.Frag) (mg : Str → Option Value) (base : Heap) (j : Nat) (X : Cx) (NS WS : List (Str × Nat)) (G : List Str) : Prop where
  ep : X.prog = P
  ew : X.w = w
  eK : X.K = K
  em : X.mg = mg
  eb : X.base = base
  room : Room j X.A
  calm : X.calm = true
  nd : X.N.Nodup
  vis : ∀ x i, (x, i) ∈ NS → X.N[i]? = some x ∧ Vis X.env.scope x ∧ (x == ("__debug__" : Str)) = false ∧ (x == ("__classdict__" : Str)) = false
  wr : ∀ x i, (x, i) ∈ WS → X.N[i]? = some x ∧ Loc X.env.scope x ∧ (X.fn x = true ∨ X.env.scope.names.lookup x = some .local)
  gl : ∀ x, x ∈ G → Gl X x ∧ (x == ("__debug__" : Str)) = false ∧ x ≠ ("__name__" : Str)

def nmB (N : List Str) (NS : List (Str × Nat)) (G : List Str) (sc : Scope) : Bool :=
  decide N.Nodup && NS.all (fun p => decide (N[p.2]? = some p.1) && (decide (sc.names.lookup p.1 = some .local) || decide (sc.names.lookup p.1 = some .cell)) && !(p.1 == ("__debug__" : Str)) && !(p.1 == ("__classdict__" : Str)))
    && G.all (fun x => decide (sc.names.lookup x = some .globalImplicit) && !(x == ("__debug__" : Str)) && decide (x ≠ ("__name__" : Str)))
theorem nm_of {CX : CXT} {P : Program} {w : World} {K : PySem.W.Frag} {mg : Str → Option Value} {base : Heap} {j : Nat} {N : List Str} {NS : List (Str × Nat)} {G : List Str} {qual : Str} {scope : Scope} {f : Addr} {cd : Value} {A : Around} {outer : List Env} {s : Shared} {H : Hp} {E : XK}
    (h : nmB N NS G scope = true) (hr : Room j (A.deeper (envOfC qual scope s.heap.objs.size f cd))) : Nm P w K mg base j (cxOf CX P w K mg base N qual scope f cd A outer s H E).nox NS NS G := by
  unfold nmB at h
  simp only [Bool.and_eq_true, Bool.or_eq_true, Bool.not_eq_true', decide_eq_true_eq, List.all_eq_true] at h
  obtain ⟨⟨h1, h2⟩, h3⟩ := h
  refine ⟨rfl, rfl, rfl, rfl, rfl, hr, rfl, h1, fun x i hm => ?_, fun x i hm => ?_, fun x hm => ?_⟩
  · obtain ⟨⟨⟨a, b⟩, c⟩, d⟩ := h2 (x, i) hm
    refine ⟨a, ?_, c, d⟩
    rcases b with b | b
    · exact .inl b
    · exact .inr (.inl b)
  · obtain ⟨⟨⟨a, b⟩, c⟩, d⟩ := h2 (x, i) hm
    exact ⟨a, b, .inl rfl⟩
  · obtain ⟨⟨a, b⟩, c⟩ := h3 x hm
    exact ⟨a, b, c⟩

section
variable {P : Program} {w : World} {K : PySem.W.Frag} {mg : Str → Option Value} {base : Heap} {j k : Nat} {X : Cx} {NS WS : List (Str × Nat)} {G : List Str} {x : Str} {i : Nat} {p pos : Pos} {e : Expr} {es : List Expr} {t : TA} {ps : List Str} {sp : Sp} {te : TE}
theorem n_v (h : Nm P w K mg base j X NS WS G) (hm : (x, i) ∈ NS) : PE X (.Name x pos) (tVar i) := pe_var (h.vis x i hm).1 (h.vis x i hm).2.1 (h.vis x i hm).2.2.1 (h.vis x i hm).2.2.2
theorem n_g (h : Nm P w K mg base j X NS WS G) (hm : (x, i) ∈ WS) : PG X (.Name x pos) (gName i) := pg_name h.nd (h.wr x i hm).1 (h.wr x i hm).2.1 (h.wr x i hm).2.2
theorem n_d (h : Nm P w K mg base j X NS WS G) (D : Df P w K mg base k x ps sp) (hk : k ≤ j) (hg : x ∈ G) (ha : PA X (e :: es) t)
    (he : starEach (e :: es) X.env = (false, eval e X.env) :: starEach es X.env := by rfl) (hpl : (backTo pos (starEach es X.env)).any (·.1) = false := by rfl) :
    PE X (.Call (.Name x p) (e :: es) [] pos) (tD sp t) := by
  obtain ⟨h1, h2, h3, h4, h5, hr, _, _, _, _, hgl⟩ := h
  subst h1 h2 h3 h4 h5
  obtain ⟨f, fd, hm, hkp, hb, F⟩ := D.ex
  refine ⟨fun pins s σ H Q I h => ?_⟩
  refine (pe_call F (hr.mono hk) (hgl x hg).1 hm hkp hb .nil pass0 ha (hgl x hg).2.1 he hpl).run pins s σ H Q I ?_
  show t σ H fun vs H1 => sp (vs ++ []) H1 Q E0
  simp only [List.append_nil]
  exact h
theorem n_b {id : String} {r : List V → Hp → VK → Prop} (h : Nm P w K mg base j X NS WS G) (hm : mg x = none) (hc : CallR X (.builtin id) r) (hv : bootBuiltins x = some (.builtin id)) (hg : x ∈ G) (ha : PA X (e :: es) t)
    (he : starEach (e :: es) X.env = (false, eval e X.env) :: starEach es X.env := by rfl) (hpl : (backTo pos (starEach es X.env)).any (·.1) = false := by rfl) : PE X (.Call (.Name x p) (e :: es) [] pos) (tCB r t) :=
  pe_callB hc (h.gl x hg).1 (by rw [h.em]; exact hm) hv ha (h.gl x hg).2.2 (h.gl x hg).2.1 he hpl
theorem n_t {T : String} {r : List V → Hp → VK → Prop} (h : Nm P w K mg base j X NS WS G) (hm : mg x = none) (hc : CallR X (.type T) r) (hv : bootBuiltins x = some (.type T)) (hg : x ∈ G) (ha : PA X (e :: es) t)
    (he : starEach (e :: es) X.env = (false, eval e X.env) :: starEach es X.env := by rfl) (hpl : (backTo pos (starEach es X.env)).any (·.1) = false := by rfl) : PE X (.Call (.Name x p) (e :: es) [] pos) (tCB r t) :=
  pe_callTy hc (h.gl x hg).1 (by rw [h.em]; exact hm) hv ha (h.gl x hg).2.2 (h.gl x hg).2.1 he hpl
theorem n_for {tg iter : Expr} {body : List Stmt} {wi : TI} {g : TG} {tb : TS} (h : Nm P w K mg base j X NS WS G) (hp : PassesOwn (model X.prog X.w) X.A X.env X.xe) (hi : PI X tg iter wi) (hg : PG X tg g) (hb : PSs X body tb)
    (hs : ∀ x, foldedSetIterable iter X.env x = pure x := by intro _; rfl) : PS X (.For tg iter body [] pos) (tFor wi g tb) := ps_for hp h.calm hi hg hb hs
theorem n_rng {tg a : Expr} (h : Nm P w K mg base j X NS WS G) (hm : mg "range" = none) (hg : ("range" : Str) ∈ G) (ha : PA X [a] t) (hs : starEach [a] X.env = [(false, eval a X.env)] := by rfl) : PI X tg (.Call (.Name "range" p) [a] [] pos) (iRng1 t) :=
  pi_range1 (h.gl _ hg).1 (by rw [h.em]; exact hm) ha hs
end
theorem p0 {α : Type} {a : α} {r : List α} : a ∈ a :: r := List.mem_cons_self
theorem pS {α : Type} {a b : α} {r : List α} (h : a ∈ r) : a ∈ b :: r := List.mem_cons_of_mem _ h
theorem ex_mk {α : Type} {A B : α → Prop} {t : α} (h1 : A t) (h2 : B t) : ∃ t, A t ∧ B t := ⟨t, h1, h2⟩

/-- the built-in names that the text uses stand for the built-ins -/
structure Bn (mg : Str → Option Value) : Prop where
  len : mg "len" = none
  int : mg "int" = none
  abs : mg "abs" = none
  list : mg "list" = none
  tuple : mg "tuple" = none
  range : mg "range" = none
  isinstance : mg "isinstance" = none
  all : mg "all" = none
  zip : mg "zip" = none
  enumerate : mg "enumerate" = none
  bool : mg "bool" = none
theorem boot_abs : bootBuiltins "abs" = some (.builtin "abs") := by decide +kernel

theorem cut {t u : TS} {D : Ends} {σ : L2.St} {H : Hp} {Pv : L2.St → Hp → Prop} (h2 : ∀ σ' H', Pv σ' H' → u D σ' H') (h : ∀ N : L2.St → Hp → Prop, (∀ σ' H', Pv σ' H' → N σ' H') → t { D with nx := N } σ H) : tSeq t u D σ H := h (u D) h2

/-! ### a comprehension's block -/
def kNames (scD scope : Scope) : List (Str × NameKind) := scope.names.map fun (n, k) => if (k == .free && scD.kind == .function && scD.names.lookup n == some .cell) then (n, .cell) else (n, k)
def nmbB (N : List Str) (NS WS : List (Str × Nat)) (G : List Str) (scD scope : Scope) : Bool :=
  NS.all (fun p => decide (N[p.2]? = some p.1) && (decide ((kNames scD scope).lookup p.1 = some .local) || decide ((kNames scD scope).lookup p.1 = some .cell) || decide ((kNames scD scope).lookup p.1 = some .free)) && !(p.1 == ("__debug__" : Str)) && !(p.1 == ("__classdict__" : Str)))
    && WS.all (fun p => decide (N[p.2]? = some p.1) && decide ((kNames scD scope).lookup p.1 = some .local))
    && G.all (fun x => decide ((kNames scD scope).lookup x = some .globalImplicit) && !(x == ("__debug__" : Str)) && decide (x ≠ ("__name__" : Str)))
theorem nm_blk {P : Program} {w : World} {K : PySem.W.Frag} {mg : Str → Option Value} {base : Heap} {j : Nat} {X : Cx} {NS WS NS' WS' : List (Str × Nat)} {G G' : List Str} {N : List Str} {scD scope : Scope} {s : Shared} {H : Hp} {C : Addr} {cl : List (Str × Addr)} {fp : List Addr}
    (h : Nm P w K mg base j X NS WS G) (eN : X.N = N) (eS : X.env.scope = scD) (hb : nmbB N NS' WS' G' scD scope = true) : Nm P w K mg base j (X.blk s H scope (compEnvC scope cl C X.env) fp) NS' WS' G' := by
  have ek : (compEnvC scope cl C X.env).scope.names = kNames scD scope := by
    subst eS
    rfl
  unfold nmbB at hb
  simp only [Bool.and_eq_true, Bool.or_eq_true, Bool.not_eq_true', decide_eq_true_eq, List.all_eq_true] at hb
  obtain ⟨⟨h1, h2⟩, h3⟩ := hb
  refine ⟨h.ep, h.ew, h.eK, h.em, h.eb, h.room, h.calm, h.nd, fun x i hm => ?_, fun x i hm => ?_, fun x hm => ?_⟩
  · obtain ⟨⟨⟨a, b⟩, c⟩, d⟩ := h1 (x, i) hm
    refine ⟨by show X.N[i]? = some x; rw [eN]; exact a, ?_, c, d⟩
    show (compEnvC scope cl C X.env).scope.names.lookup x = some .local ∨ (compEnvC scope cl C X.env).scope.names.lookup x = some .cell ∨ (compEnvC scope cl C X.env).scope.names.lookup x = some .free
    rw [ek]
    rcases b with (b | b) | b
    · exact .inl b
    · exact .inr (.inl b)
    · exact .inr (.inr b)
  · obtain ⟨a, b⟩ := h2 (x, i) hm
    refine ⟨by show X.N[i]? = some x; rw [eN]; exact a, .inl ?_, .inr ?_⟩
    · show (compEnvC scope cl C X.env).scope.names.lookup x = some .local
      rw [ek]; exact b
    · show (compEnvC scope cl C X.env).scope.names.lookup x = some .local
      rw [ek]; exact b
  · obtain ⟨⟨a, b⟩, c⟩ := h3 x hm
    refine ⟨?_, b, c⟩
    show (compEnvC scope cl C X.env).scope.names.lookup x = some .globalImplicit
    rw [ek]; exact a


section
variable {P : Program} {w : World} {K : PySem.W.Frag} {mg : Str → Option Value} {base : Heap} {j k : Nat} {X : Cx} {NS WS NS' WS' : List (Str × Nat)} {G G' : List Str} {N : List Str} {scD scope : Scope} {pos spos : Pos}
/-- [elt for tg in iter], tg a name in slot i: its parts in any context that knows the block's names -/
theorem n_lc {elt tg iter : Expr} {own : List (Str × Nat)} {wi : TI} {g : TG} {te : TE} (h : Nm P w K mg base j X NS WS G) (eN : X.N = N) (eS : X.env.scope = scD) (hk : blkC N scD scope own = true) (hb : nmbB N NS' WS' G' scD scope = true) (hi : PI X tg iter wi)
    (hg : ∀ X', Nm P w K mg base j X' NS' WS' G' → PG X' tg g) (he : ∀ X', Nm P w K mg base j X' NS' WS' G' → PE X' elt te) (hs : ∀ x, foldedSetIterable iter X.env x = pure x := by intro _; rfl) :
    PE X (.ListComp elt [⟨tg, iter, [], 0⟩] scope pos) (tLc wi g tYes te (own.map (·.2))) :=
  pe_lc h.calm h.nd hi (by subst eN eS; exact blkOk_by hk) (fun s H C cl fp => hg _ (nm_blk h eN eS hb)) (fun _ _ _ _ _ => pts_nil) (fun s H C cl fp => he _ (nm_blk h eN eS hb)) hs
theorem n_setLc {i : Nat} {y : Str} {py : Pos} {elt tg iter : Expr} {own : List (Str × Nat)} {wi : TI} {g : TG} {te : TE} (h : Nm P w K mg base j X NS WS G) (hy : (y, i) ∈ WS) (hyl : X.env.scope.names.lookup y = some .local) (eN : X.N = N) (eS : X.env.scope = scD) (hk : blkC N scD scope own = true) (hb : nmbB N NS' WS' G' scD scope = true)
    (hsw : swapsWith (.ListComp elt [⟨tg, iter, [], 0⟩] scope pos) (some (.Name y py)) spos.line X.env = pure true) (hi : PI X tg iter wi)
    (hg : ∀ X', Nm P w K mg base j X' NS' WS' G' → PG X' tg g) (he : ∀ X', Nm P w K mg base j X' NS' WS' G' → PE X' elt te) (hs : ∀ x, foldedSetIterable iter X.env x = pure x := by intro _; rfl) :
    PS X (.Assign [.Name y py] (.ListComp elt [⟨tg, iter, [], 0⟩] scope pos) spos) (tAsg (tLc wi g tYes te (own.map (·.2))) (gName i)) :=
  ps_setLc h.calm h.nd (h.wr y i hy).1 hyl hsw hi (by subst eN eS; exact blkOk_by hk) (fun s H C cl fp => hg _ (nm_blk h eN eS hb)) (fun _ _ _ _ _ => pts_nil) (fun s H C cl fp => he _ (nm_blk h eN eS hb)) hs
end

theorem yes_ {σ : L2.St} {H : Hp} {A B : Hp → Prop} (h : A H) : tYes σ H (fun b H3 => if b = true then A H3 else B H3) := by
  show (if true = true then A H else B H)
  exact iteT h
/-! ### the bag of draws at b, its cells at l -/
def Bag (H : Hp) (b l : Addr) : Prop := ∃ (i r m t : Int) (ns : List Int), H b = some (.lst [.ref l, .int i, .int r, .int m, .int t]) ∧ H l = some (.lst (ns.map V.int)) ∧ 0 ≤ i ∧ 0 ≤ r ∧ 0 ≤ m ∧ m < 2147483647
/-- all but b stays -/
def Keep (b : Addr) (H H' : Hp) : Prop := ∀ a o, a ≠ b → H a = some o → H' a = some o
/-- all but b stays; b is a bag still -/
def Stp (b l : Addr) (H H' : Hp) : Prop := Keep b H H' ∧ Bag H' b l
theorem keep_rfl {b : Addr} {H : Hp} : Keep b H H := fun _ _ _ e => e
theorem keep_trans {b : Addr} {H H1 H2 : Hp} (x : Keep b H H1) (y : Keep b H1 H2) : Keep b H H2 := fun a o n e => y a o n (x a o n e)
theorem keep_new {b p : Addr} {H : Hp} {o : HO} (h : H p = none) : Keep b H (upd H p o) := fun a u _ e => by rw [upd_ne (ne_of_none e h)]; exact e
theorem keep_add {b p : Addr} {H H1 : Hp} {o : HO} (x : Keep b H H1) (h : H1 p = none) : Keep b H (upd H1 p o) := keep_trans x (keep_new h)
/-- p was new at H; it is written again -/
theorem keep_put {b p : Addr} {H H1 : Hp} {o : HO} (x : Keep b H H1) (h : H p = none) : Keep b H (upd H1 p o) := fun a u n e => by rw [upd_ne (ne_of_none e h)]; exact x a u n e
theorem same_keep {b : Addr} {H H1 : Hp} (x : Same H H1) : Keep b H H1 := fun a o _ e => x a o e
theorem same_new {p : Addr} {H : Hp} {o : HO} (h : H p = none) : Same H (upd H p o) := fun a u e => by rw [upd_ne (ne_of_none e h)]; exact e
theorem same_add {p : Addr} {H H1 : Hp} {o : HO} (x : Same H H1) (h : H1 p = none) : Same H (upd H1 p o) := Same.trans x (same_new h)
theorem same_put {p : Addr} {H H1 : Hp} {o : HO} (x : Same H H1) (h : H p = none) : Same H (upd H1 p o) := fun a u e => by rw [upd_ne (ne_of_none e h)]; exact x a u e
section
variable {b l a p : Addr} {H H1 H' : Hp} {o : HO}
theorem Stp.trans {H2 : Hp} (x : Stp b l H H1) (y : Stp b l H1 H2) : Stp b l H H2 := ⟨keep_trans x.1 y.1, y.2⟩
theorem Bag.stp (x : Bag H b l) : Stp b l H H := ⟨keep_rfl, x⟩
theorem Bag.apart (x : Bag H b l) : l ≠ b := by
  obtain ⟨i, r, m, t, ns, hb, hl, _⟩ := x
  exact ne_of hl hb (by intro q; injection q with q; cases ns <;> simp at q)
theorem Bag.ne (x : Bag H b l) (h : H a = none) : a ≠ b := fun e => by
  obtain ⟨_, _, _, _, _, hb, _⟩ := x
  rw [e, hb] at h
  cases h
theorem Bag.ne2 (x : Bag H b l) (h : H a = none) : a ≠ l := fun e => by
  obtain ⟨_, _, _, _, _, _, hl, _⟩ := x
  rw [e, hl] at h
  cases h
theorem Bag.same (x : Bag H b l) (h : Same H H') : Bag H' b l := by
  obtain ⟨i, r, m, t, ns, hb, hl, q⟩ := x
  exact ⟨i, r, m, t, ns, h _ _ hb, h _ _ hl, q⟩
theorem Bag.new (x : Bag H b l) (h : H p = none) : Bag (upd H p o) b l := x.same (same_new h)
theorem Bag.put (x : Bag H b l) (h1 : p ≠ b) (h2 : p ≠ l) : Bag (upd H p o) b l := by
  obtain ⟨i, r, m, t, ns, hb, hl, q⟩ := x
  exact ⟨i, r, m, t, ns, by rw [upd_ne h1.symm]; exact hb, by rw [upd_ne h2.symm]; exact hl, q⟩
/-- a tuple stands apart from the bag -/
theorem Bag.tup {xs : List V} (x : Bag H b l) (h : H a = some (.tup xs)) : a ≠ b := fun e => by
  obtain ⟨_, _, _, _, _, hb, _⟩ := x
  rw [e, hb] at h
  cases h
theorem Bag.insA {C dx : Addr} {fs : List (Str × V)} (x : Bag H b l) (h : H a = some (.ins C dx fs)) : a ≠ b := fun e => by
  obtain ⟨_, _, _, _, _, hb, _⟩ := x
  rw [e, hb] at h
  cases h
theorem stp_same (x : Bag H b l) (h : Same H H') : Stp b l H H' := ⟨same_keep h, x.same h⟩
theorem Stp.same {H2 : Hp} (x : Stp b l H H1) (h : Same H1 H2) : Stp b l H H2 := ⟨keep_trans x.1 (same_keep h), x.2.same h⟩
theorem Stp.add (x : Stp b l H H1) (h : H1 p = none) : Stp b l H (upd H1 p o) := ⟨keep_add x.1 h, x.2.new h⟩
theorem Stp.put (x : Stp b l H H1) (y : Bag H b l) (h : H p = none) : Stp b l H (upd H1 p o) := ⟨keep_put x.1 h, x.2.put (y.ne h) (y.ne2 h)⟩
theorem keep_free (e : Keep b H H') (n : p ≠ b) (h : H' p = none) : H p = none := by
  cases q : H p with
  | none => rfl
  | some o =>
    rw [e p o n q] at h
    cases h
theorem Stp.free (e : Stp b l H H') (h : H' p = none) : H p = none := keep_free e.1 (e.2.ne h) h
end

def spBag (K : PySem.W.Frag) : Sp := fun vs H Q _ => ∃ (a : Addr) (ns : List Int), vs = [.ref a] ∧ SqL K H a (ns.map V.int) ∧
  ∀ H' b l, Same H H' → H b = none → Bag H' b l → Q (.ref b) H'
def spPull : Sp := fun vs H Q _ => ∃ (b l : Addr) (n : Int), vs = [.ref b, .int n] ∧ Bag H b l ∧ 0 < n ∧ n < 1073741824 ∧
  ∀ H' (d : Int), Stp b l H H' → 0 ≤ d → d < n → Q (.int d) H'
def spOf : Sp := fun vs H Q _ => ∃ (b l a : Addr) (xs : List V), vs = [.ref b, .ref a] ∧ Bag H b l ∧ H a = some (.lst xs) ∧ a ≠ b ∧ 0 < xs.length ∧ xs.length ≤ 1000 ∧
  ∀ H' (d : Nat) x, Stp b l H H' → xs[d]? = some x → Q x H'
def IsP (p : Int) : Prop := p = 2 ∨ p = 3 ∨ p = 5 ∨ p = 7
def spPrime : Sp := fun vs H Q _ => ∃ (b l : Addr), vs = [.ref b] ∧ Bag H b l ∧ ∀ H' p, Stp b l H H' → IsP p → Q (.int p) H'
def spFigs : Sp := fun vs H Q _ => ∃ (b l : Addr) (p n : Int), vs = [.ref b, .int p, .int n] ∧ Bag H b l ∧ 0 < p ∧ p < 1000 ∧ 0 ≤ n ∧ n < 1000 ∧
  ∀ H' t (ds : List Int), Stp b l H H' → H t = none → H' t = some (.tup (ds.map V.int)) → (ds.length : Int) = n → (∀ d ∈ ds, 0 ≤ d ∧ d < p) → Q (.ref t) H'
/-- a state as it stands: a pair of its turn and the tuple of its targets -/
def StAt (H : Hp) (v : V) (s : Int × List Int) : Prop := ∃ a g, v = .ref a ∧ H a = some (.tup [.int s.1, .ref g]) ∧ H g = some (.tup (s.2.map V.int))
def StsAt (H : Hp) (xs : List V) (M : List (Int × List Int)) : Prop := xs.length = M.length ∧ ∀ (i : Nat) x s, xs[i]? = some x → M[i]? = some s → StAt H x s
structure OkM (p n : Int) (M : List (Int × List Int)) : Prop where
  turn : ∀ s ∈ M, 0 ≤ s.1 ∧ s.1 < p
  many : ∀ s ∈ M, (s.2.length : Int) = p
  goal : ∀ s ∈ M, ∀ g ∈ s.2, 0 ≤ g ∧ g < n
theorem StAt.keep {b l : Addr} {H H' : Hp} {v : V} {s : Int × List Int} (x : StAt H v s) (B : Bag H b l) (k : Keep b H H') : StAt H' v s := by
  obtain ⟨a, g, rfl, h1, h2⟩ := x
  exact ⟨a, g, rfl, k a _ (B.tup h1) h1, k g _ (B.tup h2) h2⟩
theorem StsAt.keep {b l : Addr} {H H' : Hp} {xs : List V} {M : List (Int × List Int)} (x : StsAt H xs M) (B : Bag H b l) (k : Keep b H H') : StsAt H' xs M := ⟨x.1, fun i v s h1 h2 => (x.2 i v s h1 h2).keep B k⟩
theorem StAt.same {H H' : Hp} {v : V} {s : Int × List Int} (x : StAt H v s) (k : Same H H') : StAt H' v s := by
  obtain ⟨a, g, rfl, h1, h2⟩ := x
  exact ⟨a, g, rfl, k a _ h1, k g _ h2⟩
theorem StsAt.same {H H' : Hp} {xs : List V} {M : List (Int × List Int)} (x : StsAt H xs M) (k : Same H H') : StsAt H' xs M := ⟨x.1, fun i v s h1 h2 => (x.2 i v s h1 h2).same k⟩
theorem StsAt.snoc {H : Hp} {xs : List V} {M : List (Int × List Int)} {v : V} {s : Int × List Int} (x : StsAt H xs M) (y : StAt H v s) : StsAt H (xs ++ [v]) (M ++ [s]) := by
  refine ⟨by simp [x.1], fun i u t h1 h2 => ?_⟩
  by_cases c : i < xs.length
  · rw [List.getElem?_append_left c] at h1
    rw [List.getElem?_append_left (by rw [← x.1]; exact c)] at h2
    exact x.2 i u t h1 h2
  · rw [List.getElem?_append_right (by omega)] at h1
    rw [List.getElem?_append_right (by rw [← x.1]; omega), ← x.1] at h2
    have e : i - xs.length = 0 := by
      rcases Nat.eq_zero_or_pos (i - xs.length) with e | e
      · exact e
      · rw [List.getElem?_eq_none (by simp; omega)] at h1; cases h1
    rw [e] at h1 h2
    obtain rfl := Option.some.inj h1
    obtain rfl := Option.some.inj h2
    exact y
theorem StAt.lst {H : Hp} {v : V} {s : Int × List Int} {r : Addr} {ys zs : List V} (x : StAt H v s) (h : H r = some (.lst ys)) : StAt (upd H r (.lst zs)) v s := by
  obtain ⟨a, g, rfl, h1, h2⟩ := x
  have n1 : a ≠ r := ne_of h1 h (by intro q; cases q)
  have n2 : g ≠ r := ne_of h2 h (by intro q; cases q)
  exact ⟨a, g, rfl, by rw [upd_ne n1]; exact h1, by rw [upd_ne n2]; exact h2⟩
theorem StsAt.lst {H : Hp} {xs : List V} {M : List (Int × List Int)} {r : Addr} {ys zs : List V} (x : StsAt H xs M) (h : H r = some (.lst ys)) : StsAt (upd H r (.lst zs)) xs M := ⟨x.1, fun i v s h1 h2 => (x.2 i v s h1 h2).lst h⟩
theorem IsP.two {p : Int} (h : IsP p) : 2 ≤ p ∧ p ≤ 7 := by
  rcases h with h | h | h | h <;> omega
def spPlain : Sp := fun vs H Q _ => ∃ (b l : Addr) (p n : Int), vs = [.ref b, .int p, .int n] ∧ Bag H b l ∧ IsP p ∧ 0 < n ∧ n < 100 ∧
  ∀ H' t r xs M (st : Int), Stp b l H H' → H t = none → H r = none → H' t = some (.tup [.int p, .ref r, .int st]) → H' r = some (.lst xs) → StsAt H' xs M → OkM p (M.length : Int) M → 0 < M.length → (M.length : Int) ≤ n → 0 ≤ st → st < (M.length : Int) → Q (.ref t) H'
end Tw
namespace Tw
open PySem PySem.Spec PyProof.Rows L2

/-! ### zip of a tuple and a list -/
def ItzM (K : PySem.W.Frag) (a b : Addr) : It where
  go := fun i H => ∃ (xs ys : List V) (x y : V), SqT K H a xs ∧ SqL K H b ys ∧ xs[i]? = some x ∧ ys[i]? = some y
  yld := fun i H v H' => ∃ T x y, v = .ref T ∧ H T = none ∧ H' = upd H T (.tup [x, y]) ∧ (∀ xs, SqT K H a xs → xs[i]? = some x) ∧ (∀ ys, SqL K H b ys → ys[i]? = some y)
  stop := fun i H => ∃ xs ys : List V, SqT K H a xs ∧ SqL K H b ys ∧ xs.length = ys.length ∧ xs.length = i
def zM (a b : Addr) (N : Nat) (i : Nat) (h : Heap) : Prop :=
  IsZip h (N + 4) (N + 2) (N + 3) .none ∧ IsTupOf2 h (N + 2) (.ref N) (.ref (N + 1)) ∧ (∃ x y, IsTupOf2 h (N + 3) x y) ∧ h.IsTupleIter N a i ∧ h.IsListIter (N + 1) b i
theorem five {N c : Nat} (h : c ∈ [N + 4, N + 2, N + 3, N, N + 1]) : c = N + 4 ∨ c = N + 2 ∨ c = N + 3 ∨ c = N ∨ c = N + 1 := by simpa using h
theorem fiveLe {N c : Nat} (h : c ∈ [N + 4, N + 2, N + 3, N, N + 1]) : c ≤ N + 4 ∧ N ≤ c := by
  rcases five h with q | q | q | q | q <;> (rw [q]; omega)
theorem turn_zipM {P : Program} {w : World} {K : PySem.W.Frag} {elts : List Expr} {kk : Nat} {tpos : Pos} {a b N : Nat} (la : a < N) (lb : b < N) :
    Turn P w K (.Tuple elts kk tpos) (ItzM K a b) [N + 4, N + 2, N + 3, N, N + 1] (N + 4) (zM a b N) where
  mem := by simp
  obj := fun i h st c hc => by
    obtain ⟨hz, hTI, ⟨x, y, hTO⟩, ⟨o1, e1, _, d1⟩, ⟨o2, e2, _, d2⟩⟩ := st
    rcases five hc with q | q | q | q | q <;> subst q
    · exact ⟨_, hz, fun v q => nomatch q⟩
    · exact ⟨_, hTI, fun v q => nomatch q⟩
    · exact ⟨_, hTO, fun v q => nomatch q⟩
    · exact ⟨o1, e1, fun v q => by rw [d1] at q; cases q⟩
    · exact ⟨o2, e2, fun v q => by rw [d2] at q; cases q⟩
  keep := fun i h h' st k => by
    obtain ⟨hz, hTI, ⟨x, y, hTO⟩, h1, h2⟩ := st
    exact ⟨k _ (by simp) _ hz, k _ (by simp) _ hTI, ⟨x, y, k _ (by simp) _ hTO⟩,
      h1.at fun o q => k _ (by simp) o q, h2.at fun o q => k _ (by simp) o q⟩
  item := by
    intro X hP hw hK hc i pins s σ H E I hf st hg
    subst hP hw hK
    obtain ⟨hz, hTI, ⟨x0, y0, hTO⟩, h1, h2⟩ := st
    obtain ⟨xs, ys, x, y, hqx, hqy, hx, hy⟩ := hg
    obtain ⟨its, rv, p, _⟩ := I.tuple hqx
    obtain ⟨its2, rv2, p2, _⟩ := I.list hqy
    obtain ⟨u, hu, ru⟩ := rv.get hx
    obtain ⟨u2, hu2, ru2⟩ := rv2.get hy
    have l1 : i < its.toArray.size := by simpa using (List.getElem?_eq_some_iff.mp hu).1
    have l2 : i < its2.toArray.size := by simpa using (List.getElem?_eq_some_iff.mp hu2).1
    have hh : X.A.in1.handled = none := I.ok.hd hc
    have hzl : N + 4 < s.heap.objs.size := Heap.lt_size hz
    have hN : N < s.heap.objs.size := Nat.lt_of_le_of_lt (Nat.le_add_right N 4) hzl
    have S := zip_sep2 (N := N) (fp1 := [a]) (fp2 := [b]) (fun c hc => by rw [List.mem_singleton.mp hc]; exact la) (fun c hc => by rw [List.mem_singleton.mp hc]; exact lb)
    refine wpAny_pyNext_zipD2_item S (Draws.tuple hh N a (Nat.ne_of_lt la) its.toArray) (Draws.list hh (N + 1) b (Nat.ne_of_lt (Nat.lt_succ_of_lt lb)) its2.toArray) hz hTI hTO
      ⟨h1, (show s.heap.IsTuple a its.toArray from p)⟩ ⟨h2, p2.isList⟩ l1 l2 fun x1 x2 h' tk y1 y2 z' TO' s1' s2' hT hsz hk => ?_
    have e1 : x1 = u := by simpa [hu] using y1.symm
    have e2 : x2 = u2 := by simpa [hu2] using y2.symm
    subst e1 e2
    refine ⟨_, rfl, wpAny_letOwnedTupleGo_zip (s := { s with heap := h', toks := tk }) z' fun h'' z'' sb => ?_⟩
    have hT2 := (sb.2 _ (Nat.ne_of_gt hzl)).trans hT
    have new : ObjOk X.prog X.w (upd H s.heap.objs.size (.tup [x, y])) h'' s.heap.objs.size (.tup [x, y]) :=
      ⟨by show 2 ≤ sizeLine; decide, [x1, x2], .cons ru (.cons ru2 .nil), _, hT2, rfl, _, rfl⟩
    have kk : ∀ c o, c ∉ [N + 4, N + 2, N + 3, N, N + 1] → s.heap.get? c = some o → h''.get? c = some o := fun c o hb q =>
      (sb.2 c (fun e => hb (by simp [e]))).trans (hk c o (fun e => hb (by simp [e])) (fun e => hb (by simp [e])) (fun e => hb (by simp [e])) (fun e => hb (by simp [e])) q)
    have I1 := I.turnedNew (t' := tk) kk hf (Nat.le_refl _) new
    refine ⟨.ref s.heap.objs.size, _, I1, rfl, ⟨_, x, y, rfl, I.hok.fresh (Nat.le_refl _), rfl, fun l hl => by rw [I.tuple_inj hl hqx]; exact hx, fun l hl => by rw [I.list_inj hl hqy]; exact hy⟩, ⟨z'', ?_, ⟨x1, x2, ?_⟩, ?_, ?_⟩, fun c hcm => ?_⟩
    · have n1 : N + 2 ≠ N + 4 := by omega
      exact (sb.2 _ n1).trans (hk _ _ n1 (by show (N + 2 : Nat) ≠ N + 3; omega) (by show (N + 2 : Nat) ≠ N; omega) (by show (N + 2 : Nat) ≠ N + 1; omega) hTI)
    · exact (sb.2 _ (by show (N + 3 : Nat) ≠ N + 4; omega)).trans TO'
    · exact s1'.1.at fun o q => (sb.2 _ (by show (N : Nat) ≠ N + 4; omega)).trans q
    · exact s2'.1.at fun o q => (sb.2 _ (by show (N + 1 : Nat) ≠ N + 4; omega)).trans q
    · have hlt : c < s.heap.objs.size := Nat.lt_of_le_of_lt (fiveLe hcm).1 hzl
      rw [upd_ne (Nat.ne_of_lt hlt)]
      exact (hf c hcm).1
  done := by
    intro X hP hw hK hc i pins s σ H E I hf st hg
    subst hP hw hK
    obtain ⟨hz, hTI, ⟨x0, y0, hTO⟩, h1, h2⟩ := st
    obtain ⟨xs, ys, hqx, hqy, he, hi⟩ := hg
    obtain ⟨its, rv, p, _⟩ := I.tuple hqx
    obtain ⟨its2, rv2, p2, _⟩ := I.list hqy
    have l1 := rv.length
    have l2 := rv2.length
    have e1 : i = its.toArray.size := by simp; omega
    have e2 : i = its2.toArray.size := by simp; omega
    have hh : X.A.in1.handled = none := I.ok.hd hc
    have S := zip_sep2 (N := N) (fp1 := [a]) (fp2 := [b]) (fun c hc => by rw [List.mem_singleton.mp hc]; exact la) (fun c hc => by rw [List.mem_singleton.mp hc]; exact lb)
    refine wpAny_pyNext_zipD2_end S (Draws.tuple hh N a (Nat.ne_of_lt la) its.toArray) (Draws.list hh (N + 1) b (Nat.ne_of_lt (Nat.lt_succ_of_lt lb)) its2.toArray) hz hTI hTO
      ⟨h1, (show s.heap.IsTuple a its.toArray from p)⟩ ⟨h2, p2.isList⟩ (Nat.le_of_eq e1) (Nat.le_of_eq e2) (.inl e1) fun h' tk hk => ⟨rfl, I.turnedL (t' := tk) (ch := [N + 4, N + 2, N + 3, N, N + 1]) (fun c o hb q => ?_) hf⟩
    exact hk c o (fun e => hb (by simp [e])) (fun e => hb (by simp [e])) (fun e => hb (by simp [e])) (fun e => hb (by simp [e])) q
  self := fun A i s Q E st h => wpAny_pyIter_zip st.1 h
def iZipM (K : PySem.W.Frag) (ta : TA) : TI := fun σ H R => ta σ H fun vs H1 => ∃ a b xs ys, vs = [.ref a, .ref b] ∧ SqT K H1 a xs ∧ SqL K H1 b ys ∧ R (ItzM K a b) H1
theorem pi_zipM {X : Cx} {e e2 : Expr} {ta : TA} {p pos tpos : Pos} {elts : List Expr} {kk : Nat} (hg : Gl X "zip") (hm : X.mg "zip" = none) (ha : PA X [e, e2] ta)
    (hs : starEach [e, e2] X.env = (false, eval e X.env) :: starEach [e2] X.env := by rfl) (hpl : (backTo pos (starEach [e2] X.env)).any (·.1) = false := by rfl) :
    PI X (.Tuple elts kk tpos) (.Call (.Name "zip" p) [e, e2] [] pos) (iZipM X.K ta) := by
  refine ⟨fun pins s σ H R I h => ?_⟩
  refine Call_ (ld_blt I hg hm boot_zip (callWith_type1 (thn (ha.run pos pins s σ H _ I h) fun us s1 ⟨vs, H1, I1, r1, q1⟩ => ?_) hs hpl))
  obtain ⟨a, b, xs, ys, rfl, hqx, hqy, q⟩ := q1
  obtain ⟨u1, u2, rfl, r1, r2⟩ : ∃ u1 u2, us = [u1, u2] ∧ RelV (.ref a) u1 ∧ RelV (.ref b) u2 := by
    cases r1 with
    | cons r rr => cases rr with
      | cons r' rr => cases rr; exact ⟨_, _, rfl, r, r'⟩
  cases r1
  cases r2
  obtain ⟨its, rv, p1, _⟩ := I1.tuple hqx
  obtain ⟨its2, rv2, p2, _⟩ := I1.list hqy
  have la : a < s1.heap.objs.size := by
    obtain ⟨o, ho, _⟩ := id p1
    exact Heap.lt_size ho
  refine zip_begins2 (begins_tuple a its.toArray) (begins_list b its2.toArray) (show s1.heap.IsTuple a its.toArray from p1) p2.isList fun h' hz hTI hTO h1 h2 hsz hk => wpAny_pyIter_zip hz ?_
  refine ⟨s1.heap.objs.size + 4, _, zM a b s1.heap.objs.size, ItzM X.K a b, H1, rfl, I1.kept (t' := s1.toks) hk, turn_zipM la p2.lt, ⟨hz, hTI, ⟨_, _, hTO⟩, ⟨_, h1, rfl, rfl⟩, ⟨_, h2, rfl, rfl⟩⟩, fun c hc => ?_, q⟩
  have hle : s1.heap.objs.size ≤ c := (fiveLe hc).2
  exact I1.fpOk hle (I1.hok.fresh hle)
end Tw
namespace Tw
open PySem PySem.Spec PyProof.Rows L2
section
variable {P : Program} {w : World} {K : PySem.W.Frag} {mg : Str → Option Value} {base : Heap} {j k n : Nat} {X : Cx} {NS WS : List (Str × Nat)} {G : List Str} {x m : Str} {i : Nat} {p pos apos : Pos} {e o : Expr} {es : List Expr} {t tk : TA} {ps ks : List Str} {sp : Sp} {te ta : TE} {C : Addr} {kws : List Keyword}
/-- a name of the module, as a value -/
theorem n_gl {v : V} {u : Value} (h : Nm P w K mg base j X NS WS G) (hm : mg x = some u) (r : RelV v u) (hg : x ∈ G) : PE X (.Name x pos) (tC v) := pe_glob (h.gl x hg).1 (by rw [h.em]; exact hm) r (h.gl x hg).2.1
theorem n_glR {a : Addr} (h : Nm P w K mg base j X NS WS G) (hm : mg x = some (.ref a)) (hg : x ∈ G) : PE X (.Name x pos) (tC (.ref a)) := n_gl h hm rfl hg
theorem n_glI {z : Int} {tz : Tok} (h : Nm P w K mg base j X NS WS G) (hm : mg x = some (.int z tz)) (hg : x ∈ G) : PE X (.Name x pos) (tC (.int z)) := n_gl h hm ⟨_, rfl⟩ hg
/-- a built-in name, as a value -/
theorem n_bv {v : V} {u : Value} (h : Nm P w K mg base j X NS WS G) (hm : mg x = none) (hv : bootBuiltins x = some u) (r : RelV v u) (hg : x ∈ G) : PE X (.Name x pos) (tC v) := pe_bltn (h.gl x hg).1 (by rw [h.em]; exact hm) hv r (h.gl x hg).2.2 (h.gl x hg).2.1
theorem n_zip {e2 : Expr} {elts : List Expr} {kk : Nat} {tpos : Pos} (h : Nm P w K mg base j X NS WS G) (hm : mg "zip" = none) (hg : ("zip" : Str) ∈ G) (ha : PA X [e, e2] t)
    (hs : starEach [e, e2] X.env = (false, eval e X.env) :: starEach [e2] X.env := by rfl) (hpl : (backTo pos (starEach [e2] X.env)).any (·.1) = false := by rfl) : PI X (.Tuple elts kk tpos) (.Call (.Name "zip" p) [e, e2] [] pos) (iZipM X.K t) :=
  pi_zipM (h.gl _ hg).1 (by rw [h.em]; exact hm) ha hs hpl
theorem n_enum {elts : List Expr} {kk : Nat} {tpos : Pos} (h : Nm P w K mg base j X NS WS G) (hm : mg "enumerate" = none) (hg : ("enumerate" : Str) ∈ G) (ha : PA X [e] t) (hs : starEach [e] X.env = [(false, eval e X.env)] := by rfl) :
    PI X (.Tuple elts kk tpos) (.Call (.Name "enumerate" p) [e] [] pos) (iEnum X.K t) := pi_enum (h.gl _ hg).1 (by rw [h.em]; exact hm) ha hs

/-! ### methods, calls of instances, properties, new instances -/
structure Mf (P : Program) (w : World) (K : PySem.W.Frag) (mg : Str → Option Value) (base : Heap) (k : Nat) (C : Addr) (m : Str) (ps : List Str) (sp : Sp) : Prop where
  ex : ∃ f fd, Meth K C m f ∧ Binds K fd ps [] ∧ FnOk P w K mg base CX0 k f fd ps sp
def tM (C : Addr) (m : Str) (sp : Sp) (ta : TE) (t : TA) : TE := fun σ H Q => ta σ H fun x H1 => ∃ a dx fs, x = .ref a ∧ H1 a = some (.ins C dx fs) ∧ fs.lookup m = none ∧ t σ H1 fun vs H2 => sp (.ref a :: vs) H2 Q E0
theorem n_m {pl : Sem Bool} (h : Nm P w K mg base j X NS WS G) (c : Cls K C) (M : Mf P w K mg base k C m ps sp) (hk : k ≤ j) (he : PE X o ta) (ha : PA X (e :: es) t)
    (hst : starEach (e :: es) X.env = (false, eval e X.env) :: starEach es X.env := by rfl) (hpl : (backTo pos (starEach es X.env)).any (·.1) = false := by rfl)
    (ht : eval (.Call (.Attribute o m apos) (e :: es) [] pos) X.env = (do
      let ov ← eval o X.env; standAt apos.atName; let (f, first) ← holding [ov] (getMethod ov m pl)
      callWith pos f first (backTo pos (starEach (e :: es) X.env)) (backToKw pos (keywordEach [] X.env))) := by rfl) : PE X (.Call (.Attribute o m apos) (e :: es) [] pos) (tM C m sp ta t) := by
  obtain ⟨h1, h2, h3, h4, h5, hr, _, _, _, _, hgl⟩ := h
  subst h1 h2 h3 h4 h5
  obtain ⟨f, fd, hm, hb, F⟩ := M.ex
  refine ⟨fun pins s σ H Q I h => (pe_meth he c hm F (hr.mono hk) hb .nil pass0 ha hst hpl ht).run pins s σ H Q I ?_⟩
  have e : tMeth C m sp [] E0 ta t σ H Q = tM C m sp ta t σ H Q := by
    unfold tMeth tM
    refine congrArg (ta σ H) (funext fun x => funext fun H1 => ?_)
    simp only [List.append_nil]
    apply propext
    constructor
    · rintro ⟨a, dx, fs, rfl, q⟩; exact ⟨a, dx, fs, rfl, q⟩
    · rintro ⟨a, dx, fs, rfl, q⟩; exact ⟨a, dx, fs, rfl, q⟩
  rw [e]
  exact h
theorem n_m0 {pl : Sem Bool} (h : Nm P w K mg base j X NS WS G) (c : Cls K C) (M : Mf P w K mg base k C m ps sp) (hk : k ≤ j) (he : PE X o ta)
    (ht : eval (.Call (.Attribute o m apos) [] [] pos) X.env = (do
      let ov ← eval o X.env; standAt apos.atName; let (f, first) ← holding [ov] (getMethod ov m pl)
      callWith pos f first (backTo pos (starEach [] X.env)) (backToKw pos (keywordEach [] X.env))) := by rfl) : PE X (.Call (.Attribute o m apos) [] [] pos) (tM C m sp ta tNil) := by
  obtain ⟨h1, h2, h3, h4, h5, hr, _, _, _, _, hgl⟩ := h
  subst h1 h2 h3 h4 h5
  obtain ⟨f, fd, hm, hb, F⟩ := M.ex
  refine ⟨fun pins s σ H Q I h => (pe_meth0 he c hm F (hr.mono hk) hb .nil pass0 ht).run pins s σ H Q I ?_⟩
  have e : tMeth C m sp [] E0 ta tNil σ H Q = tM C m sp ta tNil σ H Q := by
    unfold tMeth tM
    refine congrArg (ta σ H) (funext fun x => funext fun H1 => ?_)
    simp only [List.append_nil]
    apply propext
    constructor
    · rintro ⟨a, dx, fs, rfl, q⟩; exact ⟨a, dx, fs, rfl, q⟩
    · rintro ⟨a, dx, fs, rfl, q⟩; exact ⟨a, dx, fs, rfl, q⟩
  rw [e]
  exact h
/-- o.m(k = v, ..): keywords alone -/
structure MfK (P : Program) (w : World) (K : PySem.W.Frag) (mg : Str → Option Value) (base : Heap) (k : Nat) (C : Addr) (m : Str) (ps ks : List Str) (gV : List V → List V → List V) (sp : Sp) : Prop where
  ex : ∃ f fd g, Meth K C m f ∧ KBn K fd ps 1 ks g gV ∧ FnOk P w K mg base CX0 k f fd ps sp
def tMK (C : Addr) (m : Str) (q : Nat) (gV : List V → List V → List V) (sp : Sp) (ta : TE) (tk : TA) : TE := fun σ H Q => ta σ H fun x H1 => ∃ a dx fs, x = .ref a ∧ H1 a = some (.ins C dx fs) ∧ fs.lookup m = none ∧ tk σ H1 fun zs H2 => zs.length = q ∧ sp (gV [.ref a] zs) H2 Q E0
theorem n_mK {pl : Sem Bool} {gV : List V → List V → List V} (h : Nm P w K mg base j X NS WS G) (c : Cls K C) (M : MfK P w K mg base k C m ps ks gV sp) (hk : k ≤ j) (he : PE X o ta) (hkw : PK X kws tk)
    (hall : (backToKw pos (keywordEach kws X.env)).all (·.1.isSome) = true := by rfl) (hks : (backToKw pos (keywordEach kws X.env)).filterMap (·.1) = ks := by rfl)
    (hpl : ((backTo pos (starEach [] X.env)).any (·.1) || (backToKw pos (keywordEach kws X.env)).any (·.1.isNone)) = false := by rfl)
    (ht : eval (.Call (.Attribute o m apos) [] kws pos) X.env = (do
      let ov ← eval o X.env; standAt apos.atName; let (f, first) ← holding [ov] (getMethod ov m pl)
      callWith pos f first (backTo pos (starEach [] X.env)) (backToKw pos (keywordEach kws X.env))) := by rfl) : PE X (.Call (.Attribute o m apos) [] kws pos) (tMK C m ks.length gV sp ta tk) := by
  obtain ⟨h1, h2, h3, h4, h5, hr, _, _, _, _, hgl⟩ := h
  subst h1 h2 h3 h4 h5
  obtain ⟨f, fd, g, hm, hb, F⟩ := M.ex
  refine ⟨fun pins s σ H Q I h => ?_⟩
  refine PySem.W.methodCall_KW (pl := pl) (thn (he.run pins s σ H _ I h) fun u s1 ⟨x, H1, I1, rx, a, dx, fs, ex, ea, l, q⟩ => ?_) ht
  subst ex
  obtain rfl : u = Value.ref a := rx
  refine getmeth_ok I1 ea c hm l ?_
  refine PySem.W.callWith_KW0 (first := [.ref a]) (h₀ := X.base) I.ok.mod.kin hm.kp hall ?_ hpl
  refine thn (hkw.run pos pins s1 σ H1 _ I1 q) fun ws s2 ⟨zs, H2, I2, rz, l2, q2⟩ => ⟨I2.kIn, ?_⟩
  rw [hks]
  exact run_fnN (us := [.ref a]) (vs := [.ref a]) F (hr.mono hk) hb pass0 I2 (.cons rfl .nil) rz rfl l2 q2
end
end Tw
namespace Tw
open PySem PySem.Spec PyProof.Rows L2
section
variable {P : Program} {w : World} {K : PySem.W.Frag} {mg : Str → Option Value} {base : Heap} {j k n : Nat} {X : Cx} {NS WS : List (Str × Nat)} {G : List Str} {x m : Str} {i : Nat} {p pos apos : Pos} {e o : Expr} {es : List Expr} {t tk : TA} {ps ks : List Str} {sp : Sp} {te ta : TE} {C : Addr} {kws : List Keyword}
/-- C(e, .., k = v, ..) -/
structure Kf (P : Program) (w : World) (K : PySem.W.Frag) (mg : Str → Option Value) (base : Heap) (k : Nat) (C : Addr) (n : Nat) (ps ks : List Str) (gV : List V → List V → List V) (sp : Sp) : Prop where
  ex : ∃ f fd g, Mk K C f ∧ KBn K fd ps (n + 1) ks g gV ∧ FnOk P w K mg base CX0 k f fd ps sp
theorem n_mk {gV : List V → List V → List V} (h : Nm P w K mg base j X NS WS G) (hm : mg x = some (.ref C)) (M : Kf P w K mg base k C n ps ks gV sp) (hk : k + 1 ≤ j) (hg : x ∈ G) (ha : PA X (e :: es) t) (hkw : PK X kws tk)
    (hall : (backToKw pos (keywordEach kws X.env)).all (·.1.isSome) = true := by rfl) (hks : (backToKw pos (keywordEach kws X.env)).filterMap (·.1) = ks := by rfl)
    (he : starEach (e :: es) X.env = (false, eval e X.env) :: starEach es X.env := by rfl)
    (hpl : ((backTo pos (starEach (e :: es) X.env)).any (·.1) || (backToKw pos (keywordEach kws X.env)).any (·.1.isNone)) = false := by rfl) :
    PE X (.Call (.Name x p) (e :: es) kws pos) (tMakeN C n ks.length sp gV E0 t tk) := by
  obtain ⟨h1, h2, h3, h4, h5, hr, _, _, _, _, hgl⟩ := h
  subst h1 h2 h3 h4 h5
  obtain ⟨f, fd, g, hM, hb, F⟩ := M.ex
  exact pe_makeN hM F (hr.mono hk) (hgl x hg).1 hm hb pass0 ha hkw hall hks (hgl x hg).2.1 he hpl

/-- f(e, ..), f an instance of C -/
structure Cf (P : Program) (w : World) (K : PySem.W.Frag) (mg : Str → Option Value) (base : Heap) (k : Nat) (C : Addr) (ps : List Str) (sp : Sp) : Prop where
  ex : ∃ f fd, StX.CallO K C f ∧ Binds K fd ps [] ∧ FnOk P w K mg base CX0 k f fd ps sp
def tCO (C : Addr) (sp : Sp) (tf : TE) (t : TA) : TE := fun σ H Q => tf σ H fun y H1 => ∃ a, y = V.ref a ∧ t σ H1 fun vs H2 => (∃ dx fs, H2 a = some (.ins C dx fs)) ∧ sp (V.ref a :: vs) H2 Q E0
theorem run_args {X : Cx} {k : Nat} {f : Addr} {fd : FuncData} {ps : List Str} {sp : Sp} {pins : List (Addr × Obj)} {σ : L2.St} {H : Hp} {s : Shared} {Q : VK} {us : List Value} {vs : List V} (F : FnOk X.prog X.w X.K X.mg X.base CX0 k f fd ps sp) (hr : Room k X.A) (hb : Binds X.K fd ps [])
    (I : Inv X pins σ H s) (r : Vals vs us) (h : sp vs H Q E0) : codeAny (model X.prog X.w) X.A (.call (.ref f) ⟨us, []⟩) (fun r s' => match r with | .ok (.ret u) => EP X pins σ Q u s' | _ => False) s := by
  have hl : (us ++ []).length = ps.length := by rw [List.append_nil, ← r.length]; exact F.len _ _ _ _ h
  have hb2 := hb s us I.kIn hl
  rw [List.append_nil] at hb2
  refine codeAny_mono (F.run X.A X.stack s H ⟨us, []⟩ us vs Q E0 hr I.env0 hb2 r h) fun r s' hq => ?_
  cases r with
  | error e => exact hq
  | ok fl =>
    cases fl with
    | ret u => exact I.after hq
    | next => exact hq
    | brk => exact hq
    | cont => exact hq
theorem n_co {tf : TE} {fe : Expr} (h : Nm P w K mg base j X NS WS G) (M : Cf P w K mg base k C ps sp) (hk : k ≤ j) (hf : PE X fe tf) (ha : PA X (e :: es) t)
    (ht : eval (.Call fe (e :: es) [] pos) X.env = (do callWith pos (← eval fe X.env) [] (backTo pos (starEach (e :: es) X.env)) (backToKw pos (keywordEach [] X.env))) := by rfl)
    (he : starEach (e :: es) X.env = (false, eval e X.env) :: starEach es X.env := by rfl) (hpl : (backTo pos (starEach es X.env)).any (·.1) = false := by rfl) : PE X (.Call fe (e :: es) [] pos) (tCO C sp tf t) := by
  obtain ⟨h1, h2, h3, h4, h5, hr, _, _, _, _, hgl⟩ := h
  subst h1 h2 h3 h4 h5
  obtain ⟨f, fd, hc, hb, F⟩ := M.ex
  refine ⟨fun pins s σ H Q I h => ?_⟩
  refine Call_ (thn (hf.run pins s σ H _ I h) fun u s1 ⟨y, H1, I1, ry, a, ey, q⟩ => ?_) ht
  subst ey
  obtain rfl : u = Value.ref a := ry
  refine StX.callO_with (thn (ha.run pos pins s1 σ H1 _ I1 q) fun us s2 ⟨vs, H2, I2, r, ⟨dx, fs, hi⟩, q2⟩ => ?_) he hpl
  obtain ⟨ox, od, J, hd⟩ := StX.insC_at I2 (.inr ⟨dx, fs, hi⟩)
  refine ⟨⟨C, ox, od, J, hd⟩, wpAny_call (PySem.W.kco_code I2.kIn J hd hc.at_ hc.fn hc.fi (codeAny_mono (run_args (us := .ref a :: us) (vs := .ref a :: vs) F (hr.mono hk) hb I2 (.cons rfl r) q2) fun r s' hq => ?_))⟩
  cases r with
  | error e => exact hq.elim
  | ok fl =>
    cases fl with
    | ret u => exact hq
    | next => exact hq.elim
    | brk => exact hq.elim
    | cont => exact hq.elim

/-- e.f, a property -/
structure Pf (P : Program) (w : World) (K : PySem.W.Frag) (mg : Str → Option Value) (base : Heap) (k : Nat) (C : Addr) (m : Str) (ps : List Str) (sp : Sp) : Prop where
  ex : ∃ q g fd, PropOf K C m q g ∧ Binds K fd ps [] ∧ FnOk P w K mg base CX0 k g fd ps sp
theorem n_p (h : Nm P w K mg base j X NS WS G) (c : Cls K C) (M : Pf P w K mg base k C m ps sp) (hk : k + 1 ≤ j) (he : PE X e ta) (hb : attributeBase e m X.env (eval e X.env) = eval e X.env := by rfl) : PE X (.Attribute e m pos) (tProp C sp [] E0 ta) := by
  obtain ⟨h1, h2, h3, h4, h5, hr, _, _, _, _, hgl⟩ := h
  subst h1 h2 h3 h4 h5
  obtain ⟨q, g, fd, hp, hbb, F⟩ := M.ex
  exact pe_prop he c hp F (hr.mono hk) hbb .nil pass0 hb

/-! ### comprehensions that make a list item by item, all else as it was -/
theorem lcT {K : PySem.W.Frag} {a : Addr} {xs fs : List V} {i : Nat} {te : TE} {vs : List Nat} {σ : L2.St} {H1 : Hp} {D : Addr} {Qd : Hp → Prop} (hT : SqT K H1 a xs) (hD : H1 D = none) (hl : fs.length = xs.length) (hz : xs.length < sizeLine)
    (he : ∀ (j : Nat) x y H' (Qk : V → Hp → Prop), xs[j]? = some x → fs[j]? = some y → Same H1 H' → (∀ H2, Same H' H2 → Qk y H2) → te ((wipe σ vs).set i (some x)) H' Qk) (hd : ∀ H', Same H1 H' → H' D = some (.lst fs) → Qd H')
    (hw : ∀ x, wipe ((wipe σ vs).set i (some x)) vs = wipe σ vs) :
    ∃ W : Nat → Nat → Hp → Prop, (∃ m, W 0 m (upd H1 D (.lst []))) ∧ ∀ i' m H, W i' m H →
      ((Itt K a).stop i' H ∧ Qd H) ∨ ((Itt K a).go i' H ∧ ∃ Nx : Hp → Prop, (∀ H', Nx H' → ∃ m', m' < m ∧ W (i' + 1) m' H') ∧ ∀ x H', (Itt K a).yld i' H x H' → gName i x (wipe σ vs) H' fun σ2 H2 => wipe σ2 vs = wipe σ vs ∧ tYes σ2 H2 fun b H3 =>
        if b = true then te σ2 H3 fun y H4 => ∃ acc, H4 D = some (.lst acc) ∧ acc.length < sizeLine ∧ Nx (upd H4 D (.lst (acc ++ [y]))) else Nx H3) := by
  have st : ∀ H, Same H1 H → SqT K H a xs := fun H e => by
    rcases hT with (h | ⟨o, h⟩) | h
    · exact .inl (.inl (e _ _ h))
    · exact .inl (.inr ⟨o, e _ _ h⟩)
    · exact .inr h
  refine lc_tup (K := K) (a := a) (xs := xs) (fun j H => Same H1 H ∧ H D = some (.lst (fs.take j))) ⟨same_new hD, by rw [upd_same]; rfl⟩ (fun j H _ p => st H p.1) ?_ ?_
  · rintro j x H hx ⟨s1, hDl⟩
    have hj : j < xs.length := (List.getElem?_eq_some_iff.mp hx).1
    have hy : fs[j]? = some fs[j] := List.getElem?_eq_getElem (by omega)
    refine ⟨hw x, yes_ ?_⟩
    refine he j x _ H _ hx hy s1 fun H2 s2 => ⟨_, s2 _ _ hDl, ?_, same_put (Same.trans s1 s2) hD, ?_⟩
    · rw [List.length_take]; omega
    · rw [upd_same, List.take_add_one, hy]; rfl
  · rintro H ⟨s1, hDl⟩
    rw [← hl, List.take_length] at hDl
    exact hd H s1 hDl
theorem lcR {n : Nat} {fs : List V} {i : Nat} {te : TE} {vs : List Nat} {σ : L2.St} {H1 : Hp} {D : Addr} {Qd : Hp → Prop} (hD : H1 D = none) (hl : fs.length = n) (hz : n < sizeLine)
    (he : ∀ (j : Nat) y H' (Qk : V → Hp → Prop), fs[j]? = some y → Same H1 H' → (∀ H2, Same H' H2 → Qk y H2) → te ((wipe σ vs).set i (some (.int (0 + (j : Int))))) H' Qk) (hd : ∀ H', Same H1 H' → H' D = some (.lst fs) → Qd H')
    (hw : ∀ x, wipe ((wipe σ vs).set i (some x)) vs = wipe σ vs) :
    ∃ W : Nat → Nat → Hp → Prop, (∃ m, W 0 m (upd H1 D (.lst []))) ∧ ∀ i' m H, W i' m H →
      ((Itr 0 n).stop i' H ∧ Qd H) ∨ ((Itr 0 n).go i' H ∧ ∃ Nx : Hp → Prop, (∀ H', Nx H' → ∃ m', m' < m ∧ W (i' + 1) m' H') ∧ ∀ x H', (Itr 0 n).yld i' H x H' → gName i x (wipe σ vs) H' fun σ2 H2 => wipe σ2 vs = wipe σ vs ∧ tYes σ2 H2 fun b H3 =>
        if b = true then te σ2 H3 fun y H4 => ∃ acc, H4 D = some (.lst acc) ∧ acc.length < sizeLine ∧ Nx (upd H4 D (.lst (acc ++ [y]))) else Nx H3) := by
  refine lc_range (lo := 0) (n := n) (fun j H => Same H1 H ∧ H D = some (.lst (fs.take j))) ⟨same_new hD, by rw [upd_same]; rfl⟩ ?_ ?_
  · rintro j H hj ⟨s1, hDl⟩
    have hy : fs[j]? = some fs[j] := List.getElem?_eq_getElem (by omega)
    refine ⟨hw _, yes_ ?_⟩
    refine he j _ H _ hy s1 fun H2 s2 => ⟨_, s2 _ _ hDl, ?_, same_put (Same.trans s1 s2) hD, ?_⟩
    · rw [List.length_take]; omega
    · rw [upd_same, List.take_add_one, hy]; rfl
  · rintro H ⟨s1, hDl⟩
    rw [← hl, List.take_length] at hDl
    exact hd H s1 hDl
end
end Tw
namespace Tw
open PySem PySem.Spec PyProof.Rows L2
theorem for_enum {K : PySem.W.Frag} {a : Addr} {xs : List V} {g : TG} {tb : TS} {D : Ends} {σ : L2.St} {H : Hp} (Pv : Nat → L2.St → Hp → Prop) (h0 : Pv 0 σ H) (hl : ∀ i σ H, Pv i σ H → SqL K H a xs)
    (hs : ∀ (i : Nat) x T σ H, xs[i]? = some x → Pv i σ H → H T = none → g (.ref T) σ (upd H T (.tup [.int (i : Nat), x])) fun σ2 H2 => tb { D with nx := Pv (i + 1), ct := Pv (i + 1), bk := D.nx } σ2 H2) (hd : ∀ σ H, Pv xs.length σ H → D.nx σ H) :
    ∃ W : Nat → Nat → L2.St → Hp → Prop, (∃ m, W 0 m σ H) ∧ ∀ i m σ H, W i m σ H →
      ((Ite K a).stop i H ∧ D.nx σ H) ∨ ((Ite K a).go i H ∧ ∃ N : L2.St → Hp → Prop, (∀ σ' H', N σ' H' → ∃ m', m' < m ∧ W (i + 1) m' σ' H') ∧ ∀ v H', (Ite K a).yld i H v H' → g v σ H' fun σ2 H2 => tb { D with nx := N, ct := N, bk := D.nx } σ2 H2) := by
  refine ⟨fun i m σ H => m = xs.length - i ∧ i ≤ xs.length ∧ Pv i σ H, ⟨xs.length, rfl, Nat.zero_le _, h0⟩, ?_⟩
  rintro i m σ H ⟨rfl, hi, p⟩
  have q := hl i σ H p
  by_cases c : i < xs.length
  · have hx : xs[i]? = some xs[i] := List.getElem?_eq_getElem c
    refine .inr ⟨⟨xs, xs[i], q, hx⟩, Pv (i + 1), fun σ' H' p' => ⟨xs.length - (i + 1), by omega, rfl, c, p'⟩, ?_⟩
    rintro v H' ⟨T, x, rfl, hT, rfl, hall⟩
    exact hs i x T σ H (hall xs q) p hT
  · have e : i = xs.length := by omega
    subst e
    exact .inl ⟨⟨xs, q, Nat.le_refl _⟩, hd σ H p⟩
/-- a def with keyword-only defaults keeps its promise -/
theorem funD_ok {P : Program} {w : World} {K : PySem.W.Frag} {mg : Str → Option Value} {base : Heap} {x qual : Str} {params : Arguments} {body : List Stmt} {scope : Scope} {dvs : List V} {kws : List (Str × V)} {f : Addr} {fd : FuncData} {N ps : List Str} {k : Nat} {sp : Sp} (F : FunD K x qual params body scope dvs kws f fd)
    (S : FnScope N ps scope) (len : ∀ vs H Q E, sp vs H Q E → vs.length = ps.length)
    (hbody : ∀ (cdv : Value) (A : Around) (outer : List Env) (s : Shared) (H : Hp) (vs : List V) (Q : VK) (E : XK), Room k (A.deeper (envOfC qual scope s.heap.objs.size f cdv)) → sp vs H Q E →
      ∃ t, PSs (cxOf CX0 P w K mg base N qual scope f cdv A outer s H E).nox body t ∧ t { nx := fun _ H' => Q .non H', rt := Q } (start N vs) H) : FnOk P w K mg base CX0 (k + 1) f fd ps sp := by
  obtain ⟨oc, od, dV, kV, doc, pm, an, cdv, ct, osl, rfl, lk, hcd, _, _⟩ := F.ex
  refine fn_of lk hcd S len fun A outer s H vs Q E hr hsp => ?_
  obtain ⟨t, h, q⟩ := hbody cdv A outer s H vs Q E hr hsp
  exact ⟨t, h.nox, q⟩
theorem cut_all {xs : List V} {n : Nat} (h : xs.length ≤ n) : cutV xs none (some (n : Int)) = xs := by
  unfold cutV
  rw [HT.sIx_nat, show HT.sIx xs.length 0 none = 0 from rfl, Nat.min_eq_right h, List.drop_zero, Nat.sub_zero, List.take_length]
end Tw
namespace Tw
open PySem PySem.Spec PyProof.Rows L2
section
variable {P : Program} {w : World} {K : PySem.W.Frag} {mg : Str → Option Value} {base : Heap} {j k n : Nat} {X : Cx} {NS WS : List (Str × Nat)} {G : List Str} {m : Str} {pos : Pos} {a b e : Expr} {ta tb te : TE} {t : TA} {p : Pos} {es : List Expr}
theorem n_ixT (h : Nm P w K mg base j X NS WS G) (ha : PE X a ta) (hb : PE X b tb) (hs : PlainIx b) : PE X (.Subscript a b pos) (tOp (rIxT K) ta tb) := by
  have e := h.eK
  subst e
  exact pe_ix ix_tup ha hb hs
theorem n_ixL (h : Nm P w K mg base j X NS WS G) (ha : PE X a ta) (hb : PE X b tb) (hs : PlainIx b) : PE X (.Subscript a b pos) (tOp (rIxL K) ta tb) := by
  have e := h.eK
  subst e
  exact pe_ix ix_list ha hb hs
theorem n_fldK (h : Nm P w K mg base j X NS WS G) (he : PE X e te) (hb : attributeBase e m X.env (eval e X.env) = eval e X.env := by rfl) : PE X (.Attribute e m pos) (tFld K te m) := by
  have e := h.eK
  subst e
  exact pe_fld he hb
theorem n_tupK {es : List Expr} {k : Nat} {t : TGs} {n : Nat} (h : Nm P w K mg base j X NS WS G) (hp : PGs X es t) (hn : (assignEach es X.env).length = n := by rfl) (hst : (assignEach es X.env).findIdx? (·.1) = none := by rfl) : PG X (.Tuple es k pos) (gTup K n t) := by
  have e := h.eK
  subst e
  exact pg_tup h.calm hp hn hst
theorem n_len (h : Nm P w K mg base j X NS WS G) (hm : mg "len" = none) (hg : ("len" : Str) ∈ G) (ha : PA X (e :: es) t)
    (he : starEach (e :: es) X.env = (false, eval e X.env) :: starEach es X.env := by rfl) (hpl : (backTo pos (starEach es X.env)).any (·.1) = false := by rfl) :
    PE X (.Call (.Name "len" p) (e :: es) [] pos) (tCB (fun xs H Q => ∃ p ys, xs = [.ref p] ∧ (SqL K H p ys ∨ SqT K H p ys) ∧ Q (.int ys.length) H) t) := by
  have e := h.eK
  subst e
  exact n_b h hm call_len_seq PySem.boot_len hg ha he hpl
end
/-! ### the mathematics: the way of a turner and what is behind it -/
abbrev Mach := List (Int × List Int)
def turnM (M : Mach) (s : Int) : Int := (M.getD s.toNat (0, [])).1
def goM (M : Mach) (s d : Int) : Int := (M.getD s.toNat (0, [])).2.getD d.toNat 0
def runM (M : Mach) (s : Int) (ds : List Int) : Int := ds.foldl (goM M) s
def wayM (M : Mach) : Int → List Int → List Int
  | _, [] => []
  | s, d :: r => s :: wayM M (goM M s d) r
def behM (p : Int) (M : Mach) (s : Int) (ds : List Int) : List Int := List.zipWith (fun d q => (d + turnM M q) % p) ds (wayM M s ds)
theorem wayM_len (M : Mach) : ∀ (ds : List Int) (s : Int), (wayM M s ds).length = ds.length
  | [], _ => rfl
  | d :: r, s => by show (wayM M (goM M s d) r).length + 1 = r.length + 1; rw [wayM_len M r]
theorem wayM_snoc (M : Mach) (d : Int) : ∀ (ds : List Int) (s : Int), wayM M s (ds ++ [d]) = wayM M s ds ++ [runM M s ds]
  | [], s => rfl
  | e :: r, s => by
    show s :: wayM M (goM M s e) (r ++ [d]) = s :: (wayM M (goM M s e) r ++ [runM M (goM M s e) r])
    rw [wayM_snoc M d r]
theorem behM_len (p : Int) (M : Mach) (s : Int) (ds : List Int) : (behM p M s ds).length = ds.length := by
  unfold behM
  rw [List.length_zipWith, wayM_len, Nat.min_self]
theorem runM_snoc (M : Mach) (s d : Int) (ds : List Int) : runM M s (ds ++ [d]) = goM M (runM M s ds) d := by
  unfold runM
  rw [List.foldl_append]; rfl
theorem goM_in {p n : Int} {M : Mach} (h : OkM p n M) (hn : (M.length : Int) = n) {s d : Int} (s0 : 0 ≤ s) (s1 : s < n) (d0 : 0 ≤ d) (d1 : d < p) : 0 ≤ goM M s d ∧ goM M s d < n := by
  have hs : s.toNat < M.length := by omega
  have hm : M[s.toNat] ∈ M := List.getElem_mem hs
  have e : M.getD s.toNat (0, []) = M[s.toNat] := by
    rw [List.getD_eq_getElem?_getD, List.getElem?_eq_getElem hs]; rfl
  unfold goM
  rw [e]
  have hd : d.toNat < (M[s.toNat]).2.length := by
    have := h.many _ hm
    omega
  rw [List.getD_eq_getElem?_getD, List.getElem?_eq_getElem hd]
  exact h.goal _ hm _ (List.getElem_mem hd)
theorem turnM_in {p n : Int} {M : Mach} (h : OkM p n M) (hn : (M.length : Int) = n) {s : Int} (s0 : 0 ≤ s) (s1 : s < n) : 0 ≤ turnM M s ∧ turnM M s < p := by
  have hs : s.toNat < M.length := by omega
  unfold turnM
  rw [List.getD_eq_getElem?_getD, List.getElem?_eq_getElem hs]
  exact h.turn _ (List.getElem_mem hs)
theorem runM_in {p n : Int} {M : Mach} (h : OkM p n M) (hn : (M.length : Int) = n) : ∀ (ds : List Int) {s : Int}, 0 ≤ s → s < n → (∀ d ∈ ds, 0 ≤ d ∧ d < p) → 0 ≤ runM M s ds ∧ runM M s ds < n
  | [], s, s0, s1, _ => ⟨s0, s1⟩
  | d :: r, s, s0, s1, f => by
    have q := goM_in h hn s0 s1 (f d List.mem_cons_self).1 (f d List.mem_cons_self).2
    exact runM_in h hn r q.1 q.2 fun x hx => f x (List.mem_cons_of_mem _ hx)
theorem wayM_in {p n : Int} {M : Mach} (h : OkM p n M) (hn : (M.length : Int) = n) : ∀ (ds : List Int) {s : Int}, 0 ≤ s → s < n → (∀ d ∈ ds, 0 ≤ d ∧ d < p) → ∀ q ∈ wayM M s ds, 0 ≤ q ∧ q < n
  | [], s, s0, s1, _, q, hq => by cases hq
  | d :: r, s, s0, s1, f, q, hq => by
    rcases List.mem_cons.mp hq with e | hq
    · rw [e]; exact ⟨s0, s1⟩
    · have z := goM_in h hn s0 s1 (f d List.mem_cons_self).1 (f d List.mem_cons_self).2
      exact wayM_in h hn r z.1 z.2 (fun x hx => f x (List.mem_cons_of_mem _ hx)) q hq
end Tw
namespace Tw
open PySem PySem.Spec PyProof.Rows L2
theorem lcZg {K : PySem.W.Frag} {J : It} {xs ys fs : List V} {i1 i2 : Nat} {te : TE} {vs : List Nat} {σ : L2.St} {H1 : Hp} {D : Addr} {Qd : Hp → Prop} (hlen : xs.length = ys.length) (hD : H1 D = none) (hl : fs.length = xs.length) (hz : xs.length < sizeLine)
    (hgo : ∀ H (j : Nat) x y, Same H1 H → xs[j]? = some x → ys[j]? = some y → J.go j H) (hstop : ∀ H, Same H1 H → J.stop xs.length H)
    (hy : ∀ H (j : Nat) v H', Same H1 H → J.yld j H v H' → ∃ T x y, v = .ref T ∧ H T = none ∧ H' = upd H T (.tup [x, y]) ∧ xs[j]? = some x ∧ ys[j]? = some y)
    (he : ∀ (j : Nat) x y z H' (Qk : V → Hp → Prop), xs[j]? = some x → ys[j]? = some y → fs[j]? = some z → Same H1 H' → (∀ H2, Same H' H2 → Qk z H2) → te (((wipe σ vs).set i1 (some x)).set i2 (some y)) H' Qk) (hd : ∀ H', Same H1 H' → H' D = some (.lst fs) → Qd H')
    (hw : ∀ x y, wipe (((wipe σ vs).set i1 (some x)).set i2 (some y)) vs = wipe σ vs) :
    ∃ W : Nat → Nat → Hp → Prop, (∃ m, W 0 m (upd H1 D (.lst []))) ∧ ∀ i' m H, W i' m H →
      (J.stop i' H ∧ Qd H) ∨ (J.go i' H ∧ ∃ Nx : Hp → Prop, (∀ H', Nx H' → ∃ m', m' < m ∧ W (i' + 1) m' H') ∧ ∀ x H', J.yld i' H x H' → gTup K 2 (gCons (gName i1) (gCons (gName i2) gNil)) x (wipe σ vs) H' fun σ2 H2 => wipe σ2 vs = wipe σ vs ∧ tYes σ2 H2 fun b H3 =>
        if b = true then te σ2 H3 fun y H4 => ∃ acc, H4 D = some (.lst acc) ∧ acc.length < sizeLine ∧ Nx (upd H4 D (.lst (acc ++ [y]))) else Nx H3) := by
  refine ⟨fun j m H => m = xs.length - j ∧ j ≤ xs.length ∧ Same H1 H ∧ H D = some (.lst (fs.take j)), ⟨xs.length, rfl, Nat.zero_le _, same_new hD, by rw [upd_same]; rfl⟩, ?_⟩
  rintro j m H ⟨rfl, hj, s1, hDl⟩
  by_cases c : j < xs.length
  · have hx : xs[j]? = some xs[j] := List.getElem?_eq_getElem c
    have hyy : ys[j]? = some ys[j] := List.getElem?_eq_getElem (by omega)
    have hf : fs[j]? = some fs[j] := List.getElem?_eq_getElem (by omega)
    refine .inr ⟨hgo H j _ _ s1 hx hyy, fun H' => Same H1 H' ∧ H' D = some (.lst (fs.take (j + 1))), fun H' p => ⟨xs.length - (j + 1), by omega, rfl, c, p⟩, ?_⟩
    intro v H' hyl
    obtain ⟨T, x, y, rfl, hT', rfl, ex, ey⟩ := hy H j v H' s1 hyl
    have s2 : Same H (upd H T (.tup [x, y])) := same_new hT'
    refine ⟨T, [x, y], rfl, SqT.of upd_same, rfl, x, [y], rfl, y, [], rfl, rfl, hw x y, yes_ ?_⟩
    refine he j x y _ _ _ ex ey hf (Same.trans s1 s2) fun H2 s3 => ⟨_, s3 _ _ (s2 _ _ hDl), ?_, same_put (Same.trans (Same.trans s1 s2) s3) hD, ?_⟩
    · rw [List.length_take]; omega
    · rw [upd_same, List.take_add_one, hf]; rfl
  · have e : j = xs.length := by omega
    subst e
    rw [← hl, List.take_length] at hDl
    exact .inl ⟨hstop H s1, hd H s1 hDl⟩
theorem sqT_same {K : PySem.W.Frag} {H H' : Hp} {a : Addr} {xs : List V} (e : Same H H') (h : SqT K H a xs) : SqT K H' a xs := by
  rcases h with (h | ⟨o, h⟩) | h
  · exact .inl (.inl (e _ _ h))
  · exact .inl (.inr ⟨o, e _ _ h⟩)
  · exact .inr h
section
variable {P : Program} {w : World} {K : PySem.W.Frag} {mg : Str → Option Value} {base : Heap} {j k n : Nat} {X : Cx} {NS WS : List (Str × Nat)} {G : List Str} {pos p : Pos} {t : TA}
theorem n_zipA {e e2 : Expr} {elts : List Expr} {kk : Nat} {tpos : Pos} (h : Nm P w K mg base j X NS WS G) (hm : mg "zip" = none) (hg : ("zip" : Str) ∈ G) (ha : PA X [e, e2] t)
    (hs : starEach [e, e2] X.env = (false, eval e X.env) :: starEach [e2] X.env := by rfl) (hpl : (backTo pos (starEach [e2] X.env)).any (·.1) = false := by rfl) : PI X (.Tuple elts kk tpos) (.Call (.Name "zip" p) [e, e2] [] pos) (RZ.iZipA K t) := by
  have q := h.eK
  subst q
  exact RZ.pi_zipA (h.gl _ hg).1 (by rw [h.em]; exact hm) ha hs hpl
theorem n_isi {e : Expr} {es : List Expr} (h : Nm P w K mg base j X NS WS G) (hm : mg "isinstance" = none) (hg : ("isinstance" : Str) ∈ G) (ha : PA X (e :: es) t)
    (he : starEach (e :: es) X.env = (false, eval e X.env) :: starEach es X.env := by rfl) (hpl : (backTo pos (starEach es X.env)).any (·.1) = false := by rfl) : PE X (.Call (.Name "isinstance" p) (e :: es) [] pos) (tCB (rIsi K) t) := by
  have q := h.eK
  subst q
  exact n_b h hm call_isi PyProof.Rows.boot_isinstance hg ha he hpl
theorem n_isiT {e : Expr} {es : List Expr} (h : Nm P w K mg base j X NS WS G) (hm : mg "isinstance" = none) (hg : ("isinstance" : Str) ∈ G) (ha : PA X (e :: es) t)
    (he : starEach (e :: es) X.env = (false, eval e X.env) :: starEach es X.env := by rfl) (hpl : (backTo pos (starEach es X.env)).any (·.1) = false := by rfl) : PE X (.Call (.Name "isinstance" p) (e :: es) [] pos) (tCB (rIsiT K) t) := by
  have q := h.eK
  subst q
  exact n_b h hm call_isiT PyProof.Rows.boot_isinstance hg ha he hpl
end
/-! ### equal data of a depth -/
inductive Eqd (K : PySem.W.Frag) (H : Hp) : Nat → V → V → Prop
  | flat {n : Nat} {v : V} (h : flatV v = true) : Eqd K H n v v
  | lst {n : Nat} {a b : Addr} {xs ys : List V} (ha : SqL K H a xs) (hb : SqL K H b ys) (hl : xs.length = ys.length) (hz : xs.length ≤ 1000) (h : ∀ (i : Nat) x y, xs[i]? = some x → ys[i]? = some y → Eqd K H n x y) : Eqd K H (n + 1) (.ref a) (.ref b)
  | tup {n : Nat} {a b : Addr} {xs ys : List V} (ha : SqT K H a xs) (hb : SqT K H b ys) (hl : xs.length = ys.length) (hz : xs.length ≤ 1000) (h : ∀ (i : Nat) x y, xs[i]? = some x → ys[i]? = some y → Eqd K H n x y) : Eqd K H (n + 1) (.ref a) (.ref b)
theorem Eqd.same {K : PySem.W.Frag} {H H' : Hp} (e : Same H H') {n : Nat} {x y : V} (h : Eqd K H n x y) : Eqd K H' n x y := by
  induction h with
  | flat h => exact .flat h
  | lst ha hb hl hz _ ih => exact .lst (Same.seq e ha) (Same.seq e hb) hl hz ih
  | tup ha hb hl hz _ ih => exact .tup (sqT_same e ha) (sqT_same e hb) hl hz ih
theorem ty_l {K : PySem.W.Frag} {H : Hp} {a : Addr} {xs : List V} (h : SqL K H a xs) : TyX K H (.ref a) (.type "list") := by
  rcases h with (h | ⟨o, h⟩) | ⟨o, its, n, h, hc, _⟩
  · exact .base (.lst h)
  · exact .base (.frz h)
  · exact .kList h hc
theorem ty_t {K : PySem.W.Frag} {H : Hp} {a : Addr} {xs : List V} (h : SqT K H a xs) : TyX K H (.ref a) (.type "tuple") := by
  rcases h with (h | ⟨o, h⟩) | ⟨o, its, n, h, hc, _⟩
  · exact .base (.tup h)
  · exact .fTuple h
  · exact .kTuple h hc
theorem ty_flat {K : PySem.W.Frag} {H : Hp} {v : V} (h : flatV v = true) : ∃ T, TyX K H v (.type T) ∧ (T = "NoneType" ∨ T = "bool" ∨ T = "int" ∨ T = "str") := by
  cases v with
  | non => exact ⟨_, .base .non, .inl rfl⟩
  | bl b => exact ⟨_, .base (.bl b), .inr (.inl rfl)⟩
  | int i => exact ⟨_, .base (.int i), .inr (.inr (.inl rfl))⟩
  | str s => exact ⟨_, .base (.str s), .inr (.inr (.inr rfl))⟩
  | _ => cases h
theorem scal_flat {v : V} (h : flatV v = true) (n : v ≠ .non) : scal v v = true := by
  cases v with
  | non => exact absurd rfl n
  | bl b => rfl
  | int i => rfl
  | str s => rfl
  | _ => cases h
def spS (K : PySem.W.Frag) : Nat → Sp
  | 0 => fun _ _ _ _ => False
  | n + 1 => fun vs H Q _ => ∃ x y, vs = [x, y] ∧ Eqd K H n x y ∧ ∀ H', Same H H' → Q (.bl true) H'
end Tw
namespace Tw
open PySem PySem.Spec PyProof.Rows L2
section
variable {P : Program} {w : World} {K : PySem.W.Frag} {mg : Str → Option Value} {base : Heap} {j k n : Nat} {X : Cx} {NS WS : List (Str × Nat)} {G : List Str} {x m : Str} {i : Nat} {p pos apos : Pos} {e o : Expr} {es : List Expr} {t tk : TA} {ps ks : List Str} {sp : Sp} {te ta : TE} {C : Addr} {kws : List Keyword} {mc : Value}
/-- C.m(e, ..), m a staticmethod of the class C -/
structure Sf (P : Program) (w : World) (K : PySem.W.Frag) (mg : Str → Option Value) (base : Heap) (k : Nat) (C : Addr) (m : Str) (ps : List Str) (sp : Sp) : Prop where
  ex : ∃ q f fd mc rest, ClX.CRead K C mc ∧ PySem.W.findCls K (.ref C) mc m = some (.get (.builtin "staticmethod.__get__") (.ref q) .none (.ref C)) ∧ PySem.W.recIn K q "staticmethod" = some (.ref f :: rest) ∧
    PySem.W.keepIn K (.ref f) = true ∧ Binds K fd ps [] ∧ FnOk P w K mg base CX0 k f fd ps sp
theorem n_sm {pl : Sem Bool} (h : Nm P w K mg base j X NS WS G) (hm : mg x = some (.ref C)) (hg : x ∈ G) (M : Sf P w K mg base k C m ps sp) (hk : k ≤ j) (ha : PA X (e :: es) t)
    (hst : starEach (e :: es) X.env = (false, eval e X.env) :: starEach es X.env := by rfl) (hpl : (backTo pos (starEach es X.env)).any (·.1) = false := by rfl)
    (ht : eval (.Call (.Attribute (.Name x p) m apos) (e :: es) [] pos) X.env = (do
      let ov ← eval (.Name x p) X.env; standAt apos.atName; let (f, first) ← holding [ov] (getMethod ov m pl)
      callWith pos f first (backTo pos (starEach (e :: es) X.env)) (backToKw pos (keywordEach [] X.env))) := by rfl) : PE X (.Call (.Attribute (.Name x p) m apos) (e :: es) [] pos) (tD sp t) := by
  have hn := n_glR (pos := p) h hm hg
  obtain ⟨h1, h2, h3, h4, h5, hr, _, _, _, _, hgl⟩ := h
  subst h1 h2 h3 h4 h5
  obtain ⟨q, f, fd, mc, rest, rd, hf, hp, hkp, hb, F⟩ := M.ex
  refine ⟨fun pins s σ H Q I h => ?_⟩
  have h' : tC (.ref C) σ H (fun v H1 => v = .ref C ∧ t σ H1 fun vs H2 => sp vs H2 Q E0) := ⟨rfl, h⟩
  refine PySem.W.methodCall_KW (pl := pl) (thn (hn.run pins s σ H _ I h') fun u s1 ⟨v, H1, I1, rx, ev, q1⟩ => ?_) ht
  subst ev
  obtain rfl : u = Value.ref C := rx
  refine PySem.W.method_cls I1.kIn rd.ga (PySem.W.cls_bind I1.kIn rd.rd hf (wpAny_call (PySem.W.sm_get (s := { s1 with toks := s1.toks + 1 }) I1.kIn hp (PySem.W.handed_on rfl ?_))))
  refine PySem.W.callWith_K (first := []) (h₀ := X.base) I.ok.mod.kin hkp (thn (ha.run pos pins _ σ H1 _ (I1.tok _) q1) fun us s2 ⟨vs, H2, I2, r, q2⟩ => ⟨I2.kIn, ?_⟩) hst hpl
  exact run_fn (us := us) (vs := vs) F (hr.mono hk) hb .nil pass0 I2 r (by rw [List.append_nil]; exact q2)

/-- f(k = v, ..), f an instance of C -/
theorem call_kw {M : Model} {A : Around} {E : Value → Shared → Prop} {s : Shared} {a : Addr} {pos : Pos} {Q : Value → Shared → Prop} {kws : List (Option Str × Sem Value)} (hplain : kws.any (·.1.isNone) = false)
    (h : wpAny M A (evalArgs (.ref a) true [] kws) (fun z s₁ => (∃ C ox od, PySem.W.InstAt s₁.heap a ox C od ∧ ox.data = .plain) ∧ wpAny M A (call (.ref a) z.pos z.kw) Q E s₁) E s) : wpAny M A (callWith pos (.ref a) [] [] kws) Q E s := by
  unfold callWith
  refine wpAny_bind (wpAny_holding (wpAny_mono h (fun z s₁ hz => ?_) fun _ _ y => y))
  obtain ⟨⟨C, ox, od, J, hd⟩, hz⟩ := hz
  have L := PySem.W.kco_keeper (M := M) J hd
  refine wpAny_bind (wpAny_standAt ?_)
  simp only [List.any_nil, Bool.false_or, hplain, List.nil_append]
  refine wpAny_bind (L.here ?_)
  refine wpAny_bind (wpAny_operateT (wpAny_mono hz (fun r s₂ hr => ?_) fun _ _ y => y))
  exact wpAny_bind (wpAny_holding (wpAny_point (wpAny_pure hr)))
structure CfK (P : Program) (w : World) (K : PySem.W.Frag) (mg : Str → Option Value) (base : Heap) (k : Nat) (C : Addr) (ps ks : List Str) (gV : List V → List V → List V) (sp : Sp) : Prop where
  ex : ∃ f fd g, StX.CallO K C f ∧ KBn K fd ps 1 ks g gV ∧ FnOk P w K mg base CX0 k f fd ps sp
def tCK (C : Addr) (q : Nat) (gV : List V → List V → List V) (sp : Sp) (tf : TE) (tk : TA) : TE := fun σ H Q => tf σ H fun y H1 => ∃ a, y = V.ref a ∧ tk σ H1 fun zs H2 => zs.length = q ∧ (∃ dx fs, H2 a = some (.ins C dx fs)) ∧ sp (gV [V.ref a] zs) H2 Q E0
theorem n_coK {tf : TE} {fe : Expr} {gV : List V → List V → List V} (h : Nm P w K mg base j X NS WS G) (M : CfK P w K mg base k C ps ks gV sp) (hk : k ≤ j) (hf : PE X fe tf) (hkw : PK X kws tk)
    (hall : (backToKw pos (keywordEach kws X.env)).all (·.1.isSome) = true := by rfl) (hks : (backToKw pos (keywordEach kws X.env)).filterMap (·.1) = ks := by rfl) (hpl : (backToKw pos (keywordEach kws X.env)).any (·.1.isNone) = false := by rfl)
    (ht : eval (.Call fe [] kws pos) X.env = (do callWith pos (← eval fe X.env) [] (backTo pos (starEach [] X.env)) (backToKw pos (keywordEach kws X.env))) := by rfl) : PE X (.Call fe [] kws pos) (tCK C ks.length gV sp tf tk) := by
  obtain ⟨h1, h2, h3, h4, h5, hr, _, _, _, _, hgl⟩ := h
  subst h1 h2 h3 h4 h5
  obtain ⟨f, fd, g, hc, hb, F⟩ := M.ex
  refine ⟨fun pins s σ H Q I h => ?_⟩
  rw [ht]
  refine wpAny_bind (thn (hf.run pins s σ H _ I h) fun u s1 ⟨y, H1, I1, ry, a, ey, q⟩ => ?_)
  subst ey
  obtain rfl : u = Value.ref a := ry
  refine call_kw hpl ?_
  refine evalArgs_kw2_nil (env := X.env) hall ?_
  refine thn (hkw.run pos pins s1 σ H1 _ I1 q) fun ws s2 ⟨zs, H2, I2, rz, l2, ⟨dx, fs, hi⟩, q2⟩ => ?_
  obtain ⟨ox, od, J, hd⟩ := StX.insC_at I2 (.inr ⟨dx, fs, hi⟩)
  refine ⟨⟨C, ox, od, J, hd⟩, ?_⟩
  rw [hks]
  have r2 := hb.rel (.cons rfl .nil : Vals [V.ref a] [Value.ref a]) rz
  refine wpAny_call (PySem.W.kco_code I2.kIn J hd hc.at_ hc.fn hc.fi (codeAny_mono (F.run X.A X.stack s2 H2 ⟨[.ref a], ks.zip ws⟩ _ _ Q E0 (hr.mono hk) I2.env0 (hb.to s2 [.ref a] ws I2.kIn rfl (rz.length.symm.trans l2)) r2 q2) fun r s' hq => ?_))
  cases r with
  | error e => exact hq.elim
  | ok fl =>
    cases fl with
    | ret u => exact I2.after hq
    | next => exact hq.elim
    | brk => exact hq.elim
    | cont => exact hq.elim
end
end Tw
namespace Tw
open PySem PySem.Spec PyProof.Rows L2
/-! ### tuples and lists of whole numbers, as data -/
theorem eqv_ints : ∀ ds : List Int, PyData.eqvAll (ds.map PyData.int) (ds.map PyData.int) = true
  | [] => by simp [PyData.eqvAll]
  | d :: r => by
    rw [List.map_cons, PyData.eqvAll, eqv_ints r, PyData.eqv]
    simp
theorem lay_ints : ∀ ds : List Int, PyData.canLayAll0 (ds.map PyData.int) = true
  | [] => by simp [PyData.canLayAll0]
  | d :: r => by
    rw [List.map_cons, PyData.canLayAll0, lay_ints r, PyData.canLay0]
    rfl
theorem depth_ints : ∀ ds : List Int, PyData.depthAll (ds.map PyData.int) = 0
  | [] => by simp [PyData.depthAll]
  | d :: r => by
    rw [List.map_cons, PyData.depthAll, depth_ints r, PyData.depth]
    rfl
theorem shaped_t (ds : List Int) : SeqAt.shaped (.tuple (ds.map PyData.int)) = true := by
  unfold SeqAt.shaped
  rw [PyData.canLay0, PyData.depth, lay_ints, depth_ints]
  rfl
theorem shaped_l (ds : List Int) : SeqAt.shaped (.list (ds.map PyData.int)) = true := by
  unfold SeqAt.shaped
  rw [PyData.canLay0, PyData.depth, lay_ints, depth_ints]
  rfl
theorem dp_ints {K : PySem.W.Frag} {H : Hp} : ∀ ds : List Int, DpAll K H (ds.map V.int) (ds.map PyData.int)
  | [] => .nil
  | d :: r => .cons (.int d) (dp_ints r)
theorem ne_tup {K : PySem.W.Frag} {H : Hp} {a b : Addr} {ds : List Int} {Q : V → Hp → Prop} (ha : H a = some (.tup (ds.map V.int))) (hb : H b = some (.tup (ds.map V.int))) (q : Q (.bl false) H) : rNeD K (.ref a) (.ref b) H Q := by
  refine ⟨_, _, .tup (SqT.of ha) (dp_ints ds), .tup (SqT.of hb) (dp_ints ds), shaped_t ds, shaped_t ds, ?_⟩
  rw [show PyData.eqv (.tuple (ds.map PyData.int)) (.tuple (ds.map PyData.int)) = true by rw [PyData.eqv]; exact eqv_ints ds]
  exact q
theorem ne_lst {K : PySem.W.Frag} {H : Hp} {a b : Addr} {ds : List Int} {Q : V → Hp → Prop} (ha : H a = some (.lst (ds.map V.int))) (hb : H b = some (.lst (ds.map V.int))) (q : Q (.bl false) H) : rNeD K (.ref a) (.ref b) H Q := by
  refine ⟨_, _, .lst (SqL.of ha) (dp_ints ds), .lst (SqL.of hb) (dp_ints ds), shaped_l ds, shaped_l ds, ?_⟩
  rw [show PyData.eqv (.list (ds.map PyData.int)) (.list (ds.map PyData.int)) = true by rw [PyData.eqv]; exact eqv_ints ds]
  exact q
/-! ### slices and sums of tuples -/
theorem cut_take (xs : List V) (n : Nat) : cutV xs none (some (n : Int)) = xs.take n := by
  unfold cutV
  rw [HT.sIx_nat, show HT.sIx xs.length 0 none = 0 from rfl, List.drop_zero, Nat.sub_zero]
  by_cases c : n ≤ xs.length
  · rw [Nat.min_eq_left c]
  · rw [Nat.min_eq_right (by omega), List.take_length, List.take_of_length_le (by omega)]
theorem sl_any {K : PySem.W.Frag} {H : Hp} {a : Addr} {xs : List V} {n : Nat} {Q : V → Hp → Prop} (h : H a = some (.tup xs)) (k : ∀ r H', Same H H' → H' r = some (.tup (xs.take n)) → Q (.ref r) H') : rSlA K (.ref a) none (some (n : Int)) H Q := by
  refine ⟨a, xs, rfl, SqT.of h, fun w => k a H (fun _ _ e => e) ?_, fun _ p hp => ?_⟩
  · have e := w.2
    rw [HT.sIx_nat] at e
    rw [h, List.take_of_length_le (by omega)]
  · rw [cut_take]
    exact k p _ (same_new hp) upd_same
theorem sl_list_any {K : PySem.W.Frag} {H : Hp} {a : Addr} {xs : List V} {n : Nat} {Q : V → Hp → Prop} (h : H a = some (.lst xs)) (k : ∀ r H', Same H H' → H' r = some (.lst (xs.take n)) → Q (.ref r) H') : rSlL K (.ref a) none (some (n : Int)) H Q := by
  refine ⟨a, xs, rfl, SqL.of h, fun p hp => ?_⟩
  rw [cut_take]
  exact k p _ (same_new hp) upd_same
theorem cat_any {K : PySem.W.Frag} {H : Hp} {a b : Addr} {xs ys : List V} {Q : V → Hp → Prop} (ha : H a = some (.tup xs)) (hb : H b = some (.tup ys)) (hz : xs.length + ys.length ≤ 1000) (k : ∀ r H', Same H H' → H' r = some (.tup (xs ++ ys)) → Q (.ref r) H') : rCatA K (.ref a) (.ref b) H Q := by
  refine ⟨a, b, xs, ys, rfl, rfl, SqT.of ha, SqT.of hb, Nat.le_of_lt (small1000 hz), fun e => ?_, fun _ e => ?_, fun _ _ p hp => ?_⟩
  · subst e
    exact k b H (fun _ _ e => e) hb
  · subst e
    refine k a H (fun _ _ e => e) ?_
    rw [List.append_nil]; exact ha
  · exact k p _ (same_new hp) upd_same
theorem flat_rep (n : Nat) (v : V) : (List.replicate n [v]).flatten = List.replicate n v := by
  induction n with
  | zero => rfl
  | succ n ih => rw [List.replicate_succ, List.flatten_cons, ih]; rfl
/-! ### equal data out of whole numbers -/
/-! ### what is above does not change what is below -/
end Tw
namespace Tw
open PySem PySem.Spec PyProof.Rows L2
/-! ### != by an own == -/
section
variable {prog : Program} {w : World} {A : Around} {E : Value → Shared → Prop} {s : Shared} {K : PySem.W.Frag} {x y C f : Addr} {ox : Obj} {od : Option Obj}
theorem bound_b {M : Model} {name : Str} {id : String} {args : List Value} {Q : Option Value → Shared → Prop} (X : K.In s.heap) (I : PySem.W.InstAt s.heap x ox C od) (hs : PySem.W.findIn K (.ref C) name = some (some (.builtin id)))
    (S : Slot "object" name id) (h : wpAny M A (call (.builtin id) (.ref x :: args)) (fun v => Q (some v)) E s) : wpAny M A (callSpecialIfBound? (.ref x) name args) Q E s := by
  simp only [callSpecialIfBound?, bindSpecialIfBound?]
  refine wpAny_holding (wpAny_bind (wpAny_bind (wpAny_bind (I.type.here ((PySem.W.looks_findIn X hs).here ?_)))))
  simp only [S.bind]
  refine wpAny_bind (wpAny_askSetting (wpAny_ite ?_))
  have last : wpAny M A (call (.builtin id) ([.ref x] ++ args) >>= fun v => pure (some v)) Q E s := wpAny_bind (wpAny_mono h (fun v s' q => wpAny_pure q) fun _ _ q => q)
  split
  · exact wpAny_bind (wpAny_pure (wpAny_pure last))
  · exact wpAny_tryCatch (wpAny_bind (wpAny_pure (wpAny_pure last)))
theorem check_b {M : Model} {rest : List Value} {Q : Unit → Shared → Prop} (X : K.In s.heap) (I : PySem.W.InstAt s.heap x ox C od) (hm : PySem.W.mroIn K C (.type "object") = some true) (ha : argsOk "object.__ne__" ⟨.ref x :: rest, []⟩) (hq : Q () s) :
    wpAny M A (checkBuiltinCall "object.__ne__" ⟨.ref x :: rest, []⟩) Q E s := by
  simp only [checkBuiltinCall, F.cmpKind_ne, F.cmpSplit_ne]
  refine wpAny_bind ?_
  unfold isInstance
  refine wpAny_bind (I.type.here ?_)
  refine (PySem.W.looks_mroIn X hm).here ?_
  cases hsig : Manifest.signature? "object.__ne__" with
  | none => exact wpAny_pure hq
  | some sig =>
    simp only [argsOk, hsig] at ha
    have h2 : Bind.checkArgs "object.__ne__" sig ⟨.ref x :: rest, []⟩ = pure () := ha
    show wpAny M A (Bind.checkArgs "object.__ne__" sig ⟨.ref x :: rest, []⟩) Q E _
    rw [h2]
    exact wpAny_pure hq
theorem objNe_K {b : Value} {Q : Fin → Shared → Prop} (hu : A.units < cLine) (X : K.In s.heap) (I : PySem.W.InstAt s.heap x ox C od) (hs : PySem.W.findIn K (.ref C) "__eq__" = some (some (.ref f))) (hf : PySem.W.isFn K (.ref f) = true)
    (hcall : wpAny (model prog w) A (call (.ref f) [.ref x, b]) (fun v s' => ∃ t, v = .bool t ∧ Q (.done (.ret (.bool (!t)))) s') E s) : wpAny (model prog w) A (Builtin.«object.__ne__» ⟨[.ref x, b], []⟩) Q E s := by
  obtain ⟨hp, g, d, t, os⟩ := s
  unfold Builtin.«object.__ne__»
  repeat (first
    | with_reducible refine wpAny_cRoomFor hu ?_
    | (refine wpAny_bind (m := callSpecialIfBound? (.ref x) (Str.ofString "__eq__") [b])
        (PySem.W.ifBound_K X I hs hf (wpAny_mono hcall (fun r s' hr => by
          obtain ⟨t, rfl, hq⟩ := hr
          repeat (first | exact hq | exact wpAny_pure hq | exact wpAny_truthy_bool hq | (refine wpAny_bind (m := truthy (.bool _)) (wpAny_truthy_bool ?_)) | wp_step)) fun _ _ e => e)))
    | wp_step)
theorem ne_K {y : Addr} {oy : Obj} {ody : Option Obj} {Q : Value → Shared → Prop} (hu : A.units + 1 < cLine) (X : K.In s.heap) (I : PySem.W.InstAt s.heap x ox C od) (J : PySem.W.InstAt s.heap y oy C ody)
    (hn : PySem.W.findIn K (.ref C) "__ne__" = some (some (.builtin "object.__ne__"))) (hm : PySem.W.mroIn K C (.type "object") = some true)
    (hs : PySem.W.findIn K (.ref C) "__eq__" = some (some (.ref f))) (hf : PySem.W.isFn K (.ref f) = true)
    (hcall : wpAny (model prog w) A.in1 (call (.ref f) [.ref x, .ref y]) (fun v s' => ∃ t, v = .bool t ∧ Q (.bool (!t)) s') E s) : wpAny (model prog w) A (richCompare .NotEq (.ref x) (.ref y)) Q E s := by
  have one : wpAny (model prog w) A (tryCompare (.ref x) "__ne__" (.ref y)) (fun r s' => ∃ v, r = some v ∧ Q v s') E s := by
    unfold tryCompare
    refine wpAny_bind (bound_b X I hn F.cmp_object.ne (wpAny_call (codeAny_call_builtin F.cmp_object.ne.plain F.cmpEntry_ne (check_b X I hm (F.cmpArgs_ne _ _)
      (objNe_K (A := A.in1) hu X I hs hf (wpAny_mono hcall (fun v s' hv => ?_) fun _ _ e => e))))))
    obtain ⟨t, rfl, hq⟩ := hv
    exact ⟨t, rfl, wpAny_pure ⟨_, rfl, hq⟩⟩
  unfold richCompare
  simp only [oneThing_ref]
  refine wpAny_holding (wpAny_bind (wpAny_cRoomFor (Nat.lt_of_succ_lt hu) ?_))
  rw [cmpInfo_NotEq]
  dsimp only
  refine wpAny_bind (I.type.here (wpAny_bind (J.type.here ?_)))
  rw [show (Value.ref C != Value.ref C) = false from by simp]
  simp only [Bool.false_eq_true, if_false]
  refine wpAny_bind (wpAny_pure ?_)
  simp only [Bool.false_eq_true, if_false]
  refine wpAny_bind (wpAny_mono one (fun r s' z => ?_) fun _ _ e => e)
  obtain ⟨v, rfl, hq⟩ := z
  exact wpAny_pure hq
end
section
variable {X : Cx} {n : Nat} {C : Addr}
/-- x != y, both of the class C, by what their own == promises -/
def rNeO (C : Addr) (sp : Sp) : R2 := fun x y H Q => ∃ a b dx dy fs gs, x = .ref a ∧ y = .ref b ∧ H a = some (.ins C dx fs) ∧ H b = some (.ins C dy gs) ∧ sp [.ref a, .ref b] H (fun v H' => ∃ t, v = .bl t ∧ Q (.bl (!t)) H') E0
structure Ow (P : Program) (w : World) (K : PySem.W.Frag) (mg : Str → Option Value) (base : Heap) (k : Nat) (C : Addr) (ps : List Str) (sp : Sp) : Prop where
  ex : ∃ f fd, PySem.W.findIn K (.ref C) "__eq__" = some (some (.ref f)) ∧ PySem.W.isFn K (.ref f) = true ∧ Binds K fd ps [] ∧ FnOk P w K mg base CX0 k f fd ps sp
  ne : PySem.W.findIn K (.ref C) "__ne__" = some (some (.builtin "object.__ne__"))
  mo : PySem.W.mroIn K C (.type "object") = some true
theorem run_own {f : Addr} {fd : FuncData} {ps : List Str} {sp : Sp} {pins : List (Addr × Obj)} {σ : L2.St} {H : Hp} {s : Shared} {A : Around} {a b : Addr} {Q : VK} (hf : A.frames = X.A.frames) (hr : Room n A) (F : FnOk X.prog X.w X.K X.mg X.base CX0 n f fd ps sp) (hb : Binds X.K fd ps [])
    (I : Inv X pins σ H s) (h : sp [.ref a, .ref b] H Q E0) : wpAny (model X.prog X.w) A (call (.ref f) [.ref a, .ref b]) (fun u s' => ∃ v H', Inv X pins σ H' s' ∧ RelV v u ∧ Q v H') X.xe s := by
  have e0 : Env0 X.prog X.w X.K X.mg X.base A X.stack s H := by
    have e := I.env0
    exact ⟨by rw [hf]; exact e.frames, e.mod, e.bs, e.bsz, e.funs, e.frf, e.hok, e.bare⟩
  have hl := F.len _ _ _ _ h
  have r2 : Vals [V.ref a, V.ref b] [Value.ref a, Value.ref b] := .cons rfl (.cons rfl .nil)
  refine wpAny_call (codeAny_mono (F.run A X.stack s H ⟨[.ref a, .ref b], []⟩ [.ref a, .ref b] [.ref a, .ref b] Q E0 hr e0 (by
    have := hb s [.ref a, .ref b] I.kIn (by simpa using hl)
    simpa using this) r2 h) fun r s' hq => ?_)
  cases r with
  | error e => exact hq.elim
  | ok fl =>
    cases fl with
    | ret u =>
      obtain ⟨v, H', I', rv, q⟩ := I.after hq
      exact ⟨v, H', I', rv, q⟩
    | next => exact hq.elim
    | brk => exact hq.elim
    | cont => exact hq.elim
theorem op_neO {ps : List Str} {sp : Sp} (W : Ow X.prog X.w X.K X.mg X.base n C ps sp) (hr : Room (n + 1) X.A) : OpR X (compareOp .NotEq) (rNeO C sp) := by
  intro pins s σ H x y v u Q I rx ry hq
  obtain ⟨a, b, dx, dy, fs, gs, rfl, rfl, ha, hb, q⟩ := hq
  obtain ⟨f, fd, hs, hf, hbb, F⟩ := W.ex
  cases rx
  cases ry
  obtain ⟨mA, J, _⟩ := ins_get I.hok ha
  obtain ⟨mB, J', _⟩ := ins_get I.hok hb
  obtain ⟨od, J, _⟩ := J.look
  obtain ⟨od', J', _⟩ := J'.look
  show wpAny (model X.prog X.w) X.A (richCompare .NotEq (.ref a) (.ref b)) (EP X pins σ Q) X.xe s
  refine ne_K (by have := hr.un; omega) I.kIn J J' W.ne W.mo hs hf (wpAny_mono (run_own (A := X.A.in1) rfl hr.in1 F hbb I q) (fun r s' z => ?_) fun _ _ x => x)
  obtain ⟨v, H', I', rv, t, rfl, qq⟩ := z
  cases rv
  exact ⟨t, rfl, .bl (!t), H', I', rfl, qq⟩
end
/-! ### a comprehension over a tuple or list whose items are made anew -/
theorem lcA {K : PySem.W.Frag} {J : It} {xs : List V} {R : Nat → V → Hp → Prop} {g : TG} {te : TE} {vs : List Nat} {σ : L2.St} {H1 : Hp} {D : Addr} {Qd : Hp → Prop} (hD : H1 D = none) (hz : xs.length < sizeLine)
    (hgo : ∀ H (j : Nat), Same H1 H → j < xs.length → J.go j H) (hstop : ∀ H, Same H1 H → J.stop xs.length H)
    (hR : ∀ i y H H', Same H H' → R i y H → R i y H') (hRl : ∀ i y H r ys zs, H r = some (.lst ys) → R i y H → R i y (upd H r (.lst zs)))
    (he : ∀ (j : Nat) x H' v H2 (Qk : V → Hp → Prop), xs[j]? = some x → Same H1 H' → J.yld j H' v H2 → (∀ y H3, Same H' H3 → R j y H3 → Qk y H3) → g v (wipe σ vs) H2 fun σ2 H3 => wipe σ2 vs = wipe σ vs ∧ te σ2 H3 Qk)
    (hd : ∀ ys H', Same H1 H' → H' D = some (.lst ys) → ys.length = xs.length → (∀ (i : Nat) y, ys[i]? = some y → R i y H') → Qd H')
    (hgm : ∀ v σ H (A B : L2.St → Hp → Prop), (∀ σ H, A σ H → B σ H) → g v σ H A → g v σ H B) :
    ∃ W : Nat → Nat → Hp → Prop, (∃ m, W 0 m (upd H1 D (.lst []))) ∧ ∀ i' m H, W i' m H →
      (J.stop i' H ∧ Qd H) ∨ (J.go i' H ∧ ∃ Nx : Hp → Prop, (∀ H', Nx H' → ∃ m', m' < m ∧ W (i' + 1) m' H') ∧ ∀ x H', J.yld i' H x H' → g x (wipe σ vs) H' fun σ2 H2 => wipe σ2 vs = wipe σ vs ∧ tYes σ2 H2 fun b H3 =>
        if b = true then te σ2 H3 fun y H4 => ∃ acc, H4 D = some (.lst acc) ∧ acc.length < sizeLine ∧ Nx (upd H4 D (.lst (acc ++ [y]))) else Nx H3) := by
  refine ⟨fun j m H => m = xs.length - j ∧ j ≤ xs.length ∧ Same H1 H ∧ ∃ ys, H D = some (.lst ys) ∧ ys.length = j ∧ ∀ (i : Nat) y, ys[i]? = some y → R i y H,
    ⟨xs.length, rfl, Nat.zero_le _, same_new hD, [], upd_same, rfl, fun i y h => by simp at h⟩, ?_⟩
  rintro j m H ⟨rfl, hj, s1, ys, hDl, hyl, hy⟩
  by_cases c : j < xs.length
  · have hx : xs[j]? = some xs[j] := List.getElem?_eq_getElem c
    refine .inr ⟨hgo H j s1 c, fun H' => Same H1 H' ∧ ∃ ys, H' D = some (.lst ys) ∧ ys.length = j + 1 ∧ ∀ (i : Nat) y, ys[i]? = some y → R i y H', fun H' p => ⟨xs.length - (j + 1), by omega, rfl, c, p⟩, ?_⟩
    intro v H' hyld
    refine hgm _ _ _ _ _ (fun σ2 H2 p => ⟨p.1, yes_ p.2⟩) (he j _ H v H' (fun y H4 => ∃ acc, H4 D = some (.lst acc) ∧ acc.length < sizeLine ∧ Same H1 (upd H4 D (.lst (acc ++ [y]))) ∧ ∃ ys, (upd H4 D (.lst (acc ++ [y]))) D = some (.lst ys) ∧ ys.length = j + 1 ∧ ∀ (i : Nat) z, ys[i]? = some z → R i z (upd H4 D (.lst (acc ++ [y])))) hx s1 hyld fun y H3 s3 r => ?_)
    refine ⟨ys, s3 _ _ hDl, by omega, same_put (Same.trans s1 s3) hD, ys ++ [y], upd_same, by simp [hyl], fun i z hz' => ?_⟩
    by_cases ci : i < ys.length
    · rw [List.getElem?_append_left ci] at hz'
      exact hRl _ _ _ _ _ _ (s3 _ _ hDl) (hR _ _ _ _ s3 (hy i z hz'))
    · rw [List.getElem?_append_right (by omega)] at hz'
      by_cases c0 : i - ys.length = 0
      · rw [c0] at hz'
        obtain rfl := Option.some.inj hz'
        have ei : i = j := by omega
        subst ei
        exact hRl _ _ _ _ _ _ (s3 _ _ hDl) r
      · obtain ⟨q, hq⟩ : ∃ q, i - ys.length = q + 1 := ⟨i - ys.length - 1, by omega⟩
        rw [hq] at hz'
        simp at hz'
  · have e : j = xs.length := by omega
    subst e
    exact .inl ⟨hstop H s1, hd ys H s1 hDl hyl hy⟩
end Tw
namespace Tw
open PySem PySem.Spec PyProof.Rows L2
/-! ### the undone turner -/
def undS (p : Int) (s : Int × List Int) : Int × List Int := ((-s.1) % p, (List.range p.toNat).map fun (f : Nat) => s.2.getD (((f : Int) - s.1) % p).toNat 0)
def undM (p : Int) (M : Mach) : Mach := M.map (undS p)
section
variable {p n d f t s : Int} {M : Mach}
theorem md_in (h : IsP p) (x : Int) : 0 ≤ x % p ∧ x % p < p := by rcases h with rfl | rfl | rfl | rfl <;> omega
theorem md_late (h : IsP p) (t0 : 0 ≤ t) (t1 : t < p) : (p - t) % p = (-t) % p := by rcases h with rfl | rfl | rfl | rfl <;> omega
theorem md_inj (h : IsP p) {x y : Int} (x0 : 0 ≤ x) (x1 : x < p) (y0 : 0 ≤ y) (y1 : y < p) (e : (x + t) % p = (y + t) % p) : x = y := by rcases h with rfl | rfl | rfl | rfl <;> omega
theorem md_back (h : IsP p) (f0 : 0 ≤ f) (f1 : f < p) : (((f - t) % p) + t) % p = f := by rcases h with rfl | rfl | rfl | rfl <;> omega
theorem undS_len (p : Int) (s : Int × List Int) : (undS p s).2.length = p.toNat := by unfold undS; simp
theorem undS_at {s : Int × List Int} (f0 : 0 ≤ f) (f1 : f < p) : (undS p s).2.getD f.toNat 0 = s.2.getD ((f - s.1) % p).toNat 0 := by
  have hf : f.toNat < p.toNat := by omega
  have e : ((f.toNat : Nat) : Int) = f := by omega
  unfold undS
  rw [List.getD_eq_getElem?_getD, List.getElem?_map, List.getElem?_range hf]
  show s.2.getD ((((f.toNat : Nat) : Int) - s.1) % p).toNat 0 = _
  rw [e]
theorem undM_len : (undM p M).length = M.length := by unfold undM; simp
theorem getD_in {l : List Int} (hl : (l.length : Int) = p) (hg : ∀ g ∈ l, 0 ≤ g ∧ g < n) {i : Int} (i0 : 0 ≤ i) (i1 : i < p) : 0 ≤ l.getD i.toNat 0 ∧ l.getD i.toNat 0 < n := by
  have hi : i.toNat < l.length := by omega
  rw [List.getD_eq_getElem?_getD, List.getElem?_eq_getElem hi]
  exact hg _ (List.getElem_mem hi)
theorem undM_ok (h : IsP p) (o : OkM p n M) : OkM p n (undM p M) := by
  refine ⟨fun s hs => ?_, fun s hs => ?_, fun s hs g hg => ?_⟩
  all_goals
    unfold undM at hs
    obtain ⟨u, hu, rfl⟩ := List.mem_map.mp hs
  · exact md_in h _
  · rw [undS_len]
    have := h.two
    omega
  · unfold undS at hg
    obtain ⟨i, hi, rfl⟩ := List.mem_map.mp hg
    have z := md_in h ((i : Int) - u.1)
    exact getD_in (o.many u hu) (o.goal u hu) z.1 z.2
theorem undM_at (s0 : 0 ≤ s) (s1 : s < (M.length : Int)) : (undM p M).getD s.toNat (0, []) = undS p (M.getD s.toNat (0, [])) := by
  have hs : s.toNat < M.length := by omega
  unfold undM
  rw [List.getD_eq_getElem?_getD, List.getElem?_map, List.getD_eq_getElem?_getD, List.getElem?_eq_getElem hs]
  rfl
theorem turn_und (s0 : 0 ≤ s) (s1 : s < (M.length : Int)) : turnM (undM p M) s = (-turnM M s) % p := by
  unfold turnM
  rw [undM_at s0 s1]; rfl
theorem go_und (s0 : 0 ≤ s) (s1 : s < (M.length : Int)) (f0 : 0 ≤ f) (f1 : f < p) : goM (undM p M) s f = goM M s ((f - turnM M s) % p) := by
  unfold goM turnM
  rw [undM_at s0 s1, undS_at f0 f1]
theorem behM_in (h : IsP p) : ∀ (ds : List Int) (s : Int), ∀ d ∈ behM p M s ds, 0 ≤ d ∧ d < p
  | [], s, d, hd => by cases hd
  | e :: r, s, d, hd => by
    rcases List.mem_cons.mp (show d ∈ (e + turnM M s) % p :: behM p M (goM M s e) r from hd) with rfl | hd
    · exact md_in h _
    · exact behM_in h r _ d hd
/-! the law's own way: a list filled place by place -/
def lateM (p t : Int) (gs : List Int) : Nat → List Int
  | 0 => List.replicate p.toNat 0
  | i + 1 => (lateM p t gs i).set (((i : Int) + t) % p).toNat (gs.getD i 0)
theorem lateM_len (t : Int) (gs : List Int) : ∀ i, (lateM p t gs i).length = p.toNat
  | 0 => by simp [lateM]
  | i + 1 => by rw [lateM, List.length_set, lateM_len t gs i]
theorem lateM_at (h : IsP p) (gs : List Int) : ∀ (i : Nat), (i : Int) ≤ p → ∀ x : Nat, x < i → (lateM p t gs i)[(((x : Int) + t) % p).toNat]? = some (gs.getD x 0)
  | 0, _, x, hx => absurd hx (Nat.not_lt_zero x)
  | i + 1, hi, x, hx => by
    have zx := md_in h ((x : Int) + t)
    have zi := md_in h ((i : Int) + t)
    rw [lateM]
    by_cases c : x = i
    · subst c
      rw [List.getElem?_set_self (by rw [lateM_len]; omega)]
    · have hne : (((i : Int) + t) % p).toNat ≠ (((x : Int) + t) % p).toNat := fun e => c (by
        have := md_inj (t := t) h (x := (x : Int)) (y := (i : Int)) (by omega) (by omega) (by omega) (by omega) (by omega)
        omega)
      rw [List.getElem?_set_ne hne]
      exact lateM_at h gs i (by omega) x (by omega)
theorem lateM_end (h : IsP p) (s : Int × List Int) : lateM p s.1 s.2 p.toNat = (undS p s).2 := by
  have p2 := h.two
  refine List.ext_getElem? fun i => ?_
  by_cases c : i < p.toNat
  · have l2 : i < (undS p s).2.length := by rw [undS_len]; exact c
    have z := md_in h ((i : Int) - s.1)
    have e := lateM_at (t := s.1) h s.2 p.toNat (by omega) (((i : Int) - s.1) % p).toNat (by omega)
    have e1 : (((((((i : Int) - s.1) % p).toNat : Nat) : Int) + s.1) % p).toNat = i := by
      have := md_back (t := s.1) h (f := (i : Int)) (by omega) (by omega)
      rw [show (((((i : Int) - s.1) % p).toNat : Nat) : Int) = ((i : Int) - s.1) % p by omega, this]; omega
    rw [e1] at e
    rw [e]
    have e2 := undS_at (p := p) (s := s) (f := (i : Int)) (by omega) (by omega)
    rw [Int.toNat_natCast, List.getD_eq_getElem?_getD, List.getElem?_eq_getElem l2] at e2
    rw [List.getElem?_eq_getElem l2]
    exact congrArg some e2.symm
  · rw [List.getElem?_eq_none (by rw [lateM_len]; omega), List.getElem?_eq_none (by rw [undS_len]; omega)]
end
end Tw
namespace Tw
open PySem PySem.Spec PyProof.Rows L2
/-! ### machines as data -/
theorem eqv_ints2 : ∀ ds es : List Int, PyData.eqvAll (ds.map PyData.int) (es.map PyData.int) = decide (ds = es)
  | [], [] => by simp [PyData.eqvAll]
  | [], e :: r => by simp [PyData.eqvAll]
  | d :: r, [] => by simp [PyData.eqvAll]
  | d :: r, e :: q => by
    rw [List.map_cons, List.map_cons, PyData.eqvAll, eqv_ints2 r q, PyData.eqv]
    by_cases h : d = e <;> by_cases g : r = q <;> simp [h, g]
end Tw
namespace Tw
open PySem PySem.Spec PyProof.Rows L2
/-! ### the product of two machines, its pairs numbered as they are reached -/
abbrev Key2 := Int × Int
def plc : List Key2 → Key2 → Nat
  | [], _ => 0
  | c :: r, k => if c = k then 0 else plc r k + 1
theorem plc_mem : ∀ {ks : List Key2} {k : Key2}, k ∈ ks → ks[plc ks k]? = some k
  | [], k, h => by cases h
  | c :: r, k, h => by
    unfold plc
    by_cases e : c = k
    · rw [if_pos e, e]; rfl
    · rw [if_neg e, List.getElem?_cons_succ]
      exact plc_mem ((List.mem_cons.mp h).resolve_left fun z => e z.symm)
theorem plc_lt {ks : List Key2} {k : Key2} (h : k ∈ ks) : plc ks k < ks.length := (List.getElem?_eq_some_iff.mp (plc_mem h)).1
theorem plc_app : ∀ {ks : List Key2} {k : Key2} (r : List Key2), k ∈ ks → plc (ks ++ r) k = plc ks k
  | [], k, r, h => by cases h
  | c :: q, k, r, h => by
    rw [List.cons_append]
    unfold plc
    by_cases e : c = k
    · rw [if_pos e, if_pos e]
    · rw [if_neg e, if_neg e, plc_app r ((List.mem_cons.mp h).resolve_left fun z => e z.symm)]
theorem plc_snoc : ∀ {ks : List Key2} {k : Key2}, k ∉ ks → plc (ks ++ [k]) k = ks.length
  | [], k, h => by simp [plc]
  | c :: q, k, h => by
    rw [List.cons_append]
    unfold plc
    have e : c ≠ k := fun z => h (by rw [z]; exact List.mem_cons_self)
    rw [if_neg e, plc_snoc fun z => h (List.mem_cons_of_mem _ z)]; rfl
def addK (ks : List Key2) (k : Key2) : List Key2 := if k ∈ ks then ks else ks ++ [k]
theorem addK_mem (ks : List Key2) (k : Key2) : k ∈ addK ks k := by
  unfold addK
  by_cases h : k ∈ ks
  · rw [if_pos h]; exact h
  · rw [if_neg h]; simp
theorem addK_pre (ks : List Key2) (k : Key2) : ∃ r, addK ks k = ks ++ r := by
  unfold addK
  by_cases h : k ∈ ks
  · rw [if_pos h]; exact ⟨[], (List.append_nil _).symm⟩
  · rw [if_neg h]; exact ⟨[k], rfl⟩
theorem addK_nodup {ks : List Key2} (k : Key2) (h : ks.Nodup) : (addK ks k).Nodup := by
  unfold addK
  by_cases c : k ∈ ks
  · rw [if_pos c]; exact h
  · rw [if_neg c]
    refine List.nodup_append.mpr ⟨h, by simp, fun a ha b hb e => ?_⟩
    rw [List.mem_singleton.mp hb] at e
    exact c (e ▸ ha)
section
variable (p : Int) (M N : Mach)
def nxtP (k : Key2) (x : Nat) : Key2 := (goM M k.1 (x : Int), goM N k.2 (((x : Int) + turnM M k.1) % p))
def rowK (k : Key2) (ks : List Key2) : Nat → List Key2
  | 0 => ks
  | i + 1 => addK (rowK k ks i) (nxtP p M N k i)
def goalsK (k : Key2) (ks : List Key2) : Nat → List Int
  | 0 => []
  | i + 1 => goalsK k ks i ++ [(plc (rowK p M N k ks (i + 1)) (nxtP p M N k i) : Int)]
def keyJ (s0 : Key2) : Nat → List Key2
  | 0 => [s0]
  | j + 1 => rowK p M N ((keyJ s0 j).getD j (0, 0)) (keyJ s0 j) p.toNat
def outS (k : Key2) (ks : List Key2) : Int × List Int := ((turnM M k.1 + turnM N k.2) % p, goalsK p M N k ks p.toNat)
def outJ (s0 : Key2) : Nat → Mach
  | 0 => []
  | j + 1 => outJ s0 j ++ [outS p M N ((keyJ p M N s0 j).getD j (0, 0)) (keyJ p M N s0 j)]
end
section
variable {p : Int} {M N : Mach}
theorem rowK_pre (k : Key2) (ks : List Key2) : ∀ i, ∃ r, rowK p M N k ks i = ks ++ r
  | 0 => ⟨[], (List.append_nil _).symm⟩
  | i + 1 => by
    obtain ⟨r, e⟩ := rowK_pre k ks i
    obtain ⟨q, e2⟩ := addK_pre (rowK p M N k ks i) (nxtP p M N k i)
    exact ⟨r ++ q, by rw [rowK, e2, e, List.append_assoc]⟩
theorem rowK_more (k : Key2) (ks : List Key2) (i : Nat) : ∀ j, ∃ r, rowK p M N k ks (i + j) = rowK p M N k ks i ++ r
  | 0 => ⟨[], (List.append_nil _).symm⟩
  | j + 1 => by
    obtain ⟨r, e⟩ := rowK_more k ks i j
    obtain ⟨q, e2⟩ := addK_pre (rowK p M N k ks (i + j)) (nxtP p M N k (i + j))
    exact ⟨r ++ q, by rw [show i + (j + 1) = (i + j) + 1 by omega, rowK, e2, e, List.append_assoc]⟩
theorem rowK_has (k : Key2) (ks : List Key2) {i x : Nat} (h : x < i) : nxtP p M N k x ∈ rowK p M N k ks i := by
  obtain ⟨r, e⟩ := rowK_more (p := p) (M := M) (N := N) k ks (x + 1) (i - (x + 1))
  rw [show x + 1 + (i - (x + 1)) = i by omega] at e
  rw [e]
  exact List.mem_append_left _ (addK_mem _ _)
theorem rowK_nodup (k : Key2) {ks : List Key2} (h : ks.Nodup) : ∀ i, (rowK p M N k ks i).Nodup
  | 0 => h
  | i + 1 => addK_nodup _ (rowK_nodup k h i)
/-- a pair of states in bounds -/
def InK (M N : Mach) (k : Key2) : Prop := 0 ≤ k.1 ∧ k.1 < (M.length : Int) ∧ 0 ≤ k.2 ∧ k.2 < (N.length : Int)
theorem nxt_in (hP : IsP p) (oM : OkM p (M.length : Int) M) (oN : OkM p (N.length : Int) N) {k : Key2} (h : InK M N k) {x : Nat} (hx : (x : Int) < p) : InK M N (nxtP p M N k x) := by
  have md := md_in hP ((x : Int) + turnM M k.1)
  have g1 := goM_in oM rfl h.1 h.2.1 (d := (x : Int)) (by omega) hx
  have g2 := goM_in oN rfl h.2.2.1 h.2.2.2 md.1 md.2
  exact ⟨g1.1, g1.2, g2.1, g2.2⟩
theorem addK_in {ks : List Key2} {k : Key2} (h : ∀ c ∈ ks, InK M N c) (hk : InK M N k) : ∀ c ∈ addK ks k, InK M N c := fun c hc => by
  unfold addK at hc
  by_cases e : k ∈ ks
  · rw [if_pos e] at hc; exact h c hc
  · rw [if_neg e] at hc
    rcases List.mem_append.mp hc with z | z
    · exact h c z
    · rw [List.mem_singleton.mp z]; exact hk
theorem rowK_in (hP : IsP p) (oM : OkM p (M.length : Int) M) (oN : OkM p (N.length : Int) N) {k : Key2} {ks : List Key2} (h : ∀ c ∈ ks, InK M N c) (hk : InK M N k) : ∀ i : Nat, (i : Int) ≤ p → ∀ c ∈ rowK p M N k ks i, InK M N c
  | 0, _ => h
  | i + 1, hi => addK_in (rowK_in hP oM oN h hk i (by omega)) (nxt_in hP oM oN hk (by omega))
theorem goalsK_len (k : Key2) (ks : List Key2) : ∀ i, (goalsK p M N k ks i).length = i
  | 0 => rfl
  | i + 1 => by rw [goalsK, List.length_append, goalsK_len k ks i]; rfl
theorem goalsK_at (k : Key2) (ks : List Key2) : ∀ (i x : Nat), x < i → (goalsK p M N k ks i)[x]? = some ((plc (rowK p M N k ks i) (nxtP p M N k x) : Nat) : Int)
  | 0, x, h => absurd h (Nat.not_lt_zero x)
  | i + 1, x, h => by
    rw [goalsK]
    by_cases e : x < i
    · rw [List.getElem?_append_left (by rw [goalsK_len]; exact e), goalsK_at k ks i x e]
      obtain ⟨r, e2⟩ := addK_pre (rowK p M N k ks i) (nxtP p M N k i)
      rw [rowK, e2, plc_app r (rowK_has k ks e)]
    · have ex : x = i := by omega
      subst ex
      rw [List.getElem?_append_right (by rw [goalsK_len]; exact Nat.le_refl _), goalsK_len, Nat.sub_self]
      rfl
theorem keyJ_pre (s0 : Key2) (i : Nat) : ∀ j, ∃ r, keyJ p M N s0 (i + j) = keyJ p M N s0 i ++ r
  | 0 => ⟨[], (List.append_nil _).symm⟩
  | j + 1 => by
    obtain ⟨r, e⟩ := keyJ_pre s0 i j
    obtain ⟨q, e2⟩ := rowK_pre (p := p) (M := M) (N := N) ((keyJ p M N s0 (i + j)).getD (i + j) (0, 0)) (keyJ p M N s0 (i + j)) p.toNat
    exact ⟨r ++ q, by rw [show i + (j + 1) = (i + j) + 1 by omega, keyJ, e2, e, List.append_assoc]⟩
theorem keyJ_nodup (s0 : Key2) : ∀ j, (keyJ p M N s0 j).Nodup
  | 0 => by simp [keyJ]
  | j + 1 => rowK_nodup _ (keyJ_nodup s0 j) _
theorem getD_mem {ks : List Key2} {j : Nat} (h : j < ks.length) : ks.getD j (0, 0) ∈ ks := by
  rw [List.getD_eq_getElem?_getD, List.getElem?_eq_getElem h]
  exact List.getElem_mem h
theorem keyJ_in (hP : IsP p) (oM : OkM p (M.length : Int) M) (oN : OkM p (N.length : Int) N) {s0 : Key2} (h0 : InK M N s0) : ∀ j, (∀ i, i < j → i < (keyJ p M N s0 i).length) → ∀ c ∈ keyJ p M N s0 j, InK M N c
  | 0, _, c, hc => by rw [List.mem_singleton.mp hc]; exact h0
  | j + 1, hj, c, hc => by
    have ih := keyJ_in hP oM oN h0 j fun i hi => hj i (by omega)
    have p2 := hP.two
    exact rowK_in hP oM oN ih (ih _ (getD_mem (hj j (Nat.lt_succ_self j)))) p.toNat (by omega) c hc
theorem outJ_len (s0 : Key2) : ∀ j, (outJ p M N s0 j).length = j
  | 0 => rfl
  | j + 1 => by rw [outJ, List.length_append, outJ_len s0 j]; rfl
theorem outJ_at (s0 : Key2) : ∀ (j i : Nat), i < j → (outJ p M N s0 j)[i]? = some (outS p M N ((keyJ p M N s0 i).getD i (0, 0)) (keyJ p M N s0 i))
  | 0, i, h => absurd h (Nat.not_lt_zero i)
  | j + 1, i, h => by
    rw [outJ]
    by_cases e : i < j
    · rw [List.getElem?_append_left (by rw [outJ_len]; exact e), outJ_at s0 j i e]
    · have ex : i = j := by omega
      subst ex
      rw [List.getElem?_append_right (by rw [outJ_len]; exact Nat.le_refl _), outJ_len, Nat.sub_self]
      rfl
theorem nodup_le : ∀ {ks all : List Key2}, ks.Nodup → ks ⊆ all → ks.length ≤ all.length
  | [], _, _, _ => Nat.zero_le _
  | c :: r, all, hn, hs => by
    have hc : c ∈ all := hs List.mem_cons_self
    have hr : r.Nodup := (List.nodup_cons.mp hn).2
    have hcr : c ∉ r := (List.nodup_cons.mp hn).1
    have h := nodup_le (all := all.erase c) hr fun d hd => (List.mem_erase_of_ne (fun e : d = c => hcr (by rw [← e]; exact hd))).mpr (hs (List.mem_cons_of_mem _ hd))
    rw [List.length_erase_of_mem hc] at h
    have : 0 < all.length := List.length_pos_of_mem hc
    rw [List.length_cons]
    omega
theorem sum_same (n : Nat) : ∀ m : Nat, ((List.range m).map fun _ => n).sum = m * n
  | 0 => by simp
  | m + 1 => by
    rw [List.range_succ, List.map_append, List.sum_append, sum_same n m]
    simp [Nat.succ_mul]
/-- lists of pairs in bounds without a pair twice are no longer than all pairs -/
theorem inK_len {ks : List Key2} (hn : ks.Nodup) (h : ∀ c ∈ ks, InK M N c) : ks.length ≤ M.length * N.length := by
  let all : List Key2 := (List.range M.length).flatMap fun (a : Nat) => (List.range N.length).map fun (b : Nat) => ((a : Int), (b : Int))
  have hl : all.length = M.length * N.length := by
    show ((List.range M.length).flatMap fun (a : Nat) => (List.range N.length).map fun (b : Nat) => (((a : Int), (b : Int)) : Key2)).length = _
    simp only [List.length_flatMap, List.length_map, List.length_range]
    exact sum_same N.length M.length
  have hs : ks ⊆ all := fun c hc => by
    obtain ⟨a0, a1, b0, b1⟩ := h c hc
    refine List.mem_flatMap.mpr ⟨c.1.toNat, List.mem_range.mpr (by omega), List.mem_map.mpr ⟨c.2.toNat, List.mem_range.mpr (by omega), ?_⟩⟩
    exact Prod.ext (by show ((c.1.toNat : Nat) : Int) = c.1; omega) (by show ((c.2.toNat : Nat) : Int) = c.2; omega)
  rw [← hl]
  exact nodup_le hn hs
/-! the product when all pairs are done -/
theorem key_same {s0 : Key2} {i J : Nat} (h : i ≤ J) (hi : i < (keyJ p M N s0 i).length) : (keyJ p M N s0 J).getD i (0, 0) = (keyJ p M N s0 i).getD i (0, 0) := by
  obtain ⟨r, e⟩ := keyJ_pre (p := p) (M := M) (N := N) s0 i (J - i)
  rw [show i + (J - i) = J by omega] at e
  rw [e, List.getD_eq_getElem?_getD, List.getElem?_append_left hi, ← List.getD_eq_getElem?_getD]
structure Done (p : Int) (M N : Mach) (s0 : Key2) (J : Nat) : Prop where
  go : ∀ i, i < J → i < (keyJ p M N s0 i).length
  stop : (keyJ p M N s0 J).length = J
theorem Done.one {s0 : Key2} {J L : Nat} (a : Done p M N s0 J) (b : Done p M N s0 L) : J = L := by
  rcases Nat.lt_trichotomy J L with h | h | h
  · have := b.go J h
    have := a.stop
    omega
  · exact h
  · have := a.go L h
    have := b.stop
    omega
/-- pair i of the done product, its turn and where it goes -/
theorem done_at {s0 : Key2} {J i : Nat} (D : Done p M N s0 J) (hi : i < J) (p0 : 0 < p) :
    turnM (outJ p M N s0 J) (i : Int) = (turnM M ((keyJ p M N s0 J).getD i (0, 0)).1 + turnM N ((keyJ p M N s0 J).getD i (0, 0)).2) % p ∧
    ∀ x : Nat, (x : Int) < p → nxtP p M N ((keyJ p M N s0 J).getD i (0, 0)) x ∈ keyJ p M N s0 J ∧ goM (outJ p M N s0 J) (i : Int) (x : Int) = (plc (keyJ p M N s0 J) (nxtP p M N ((keyJ p M N s0 J).getD i (0, 0)) x) : Int) := by
  have hk := key_same (Nat.le_of_lt hi) (D.go i hi)
  have hat := outJ_at (p := p) (M := M) (N := N) s0 J i hi
  have eD : (outJ p M N s0 J).getD ((i : Int)).toNat (0, []) = outS p M N ((keyJ p M N s0 i).getD i (0, 0)) (keyJ p M N s0 i) := by
    rw [Int.toNat_natCast, List.getD_eq_getElem?_getD, hat]; rfl
  refine ⟨by unfold turnM; rw [eD, hk]; rfl, fun x hx => ?_⟩
  obtain ⟨r, e⟩ := keyJ_pre (p := p) (M := M) (N := N) s0 (i + 1) (J - (i + 1))
  rw [show i + 1 + (J - (i + 1)) = J by omega, keyJ] at e
  have hxp : x < p.toNat := by omega
  have hm := rowK_has (p := p) (M := M) (N := N) ((keyJ p M N s0 i).getD i (0, 0)) (keyJ p M N s0 i) hxp
  rw [hk]
  refine ⟨by rw [e]; exact List.mem_append_left _ hm, ?_⟩
  unfold goM
  rw [eD]
  show (goalsK p M N ((keyJ p M N s0 i).getD i (0, 0)) (keyJ p M N s0 i) p.toNat).getD ((x : Int)).toNat 0 = _
  rw [Int.toNat_natCast, List.getD_eq_getElem?_getD, goalsK_at _ _ p.toNat x hxp, e, plc_app r hm]
  rfl
theorem done_len (hP : IsP p) (oM : OkM p (M.length : Int) M) (oN : OkM p (N.length : Int) N) {s0 : Key2} (h0 : InK M N s0) {j : Nat} (hj : ∀ i, i < j → i < (keyJ p M N s0 i).length) : (keyJ p M N s0 j).length ≤ M.length * N.length :=
  inK_len (keyJ_nodup s0 j) (keyJ_in hP oM oN h0 j hj)
theorem done_ok (hP : IsP p) {s0 : Key2} {J : Nat} (D : Done p M N s0 J) : OkM p ((outJ p M N s0 J).length : Int) (outJ p M N s0 J) := by
  have p2 := hP.two
  rw [outJ_len]
  have key : ∀ s ∈ outJ p M N s0 J, ∃ i, i < J ∧ s = outS p M N ((keyJ p M N s0 i).getD i (0, 0)) (keyJ p M N s0 i) := fun s hs => by
    obtain ⟨i, hi, e⟩ := List.mem_iff_getElem.mp hs
    rw [outJ_len] at hi
    have := outJ_at (p := p) (M := M) (N := N) s0 J i hi
    rw [List.getElem?_eq_getElem (by rw [outJ_len]; exact hi), e] at this
    exact ⟨i, hi, Option.some.inj this⟩
  refine ⟨fun s hs => ?_, fun s hs => ?_, fun s hs g hg => ?_⟩
  all_goals obtain ⟨i, hi, rfl⟩ := key s hs
  · exact md_in hP _
  · show ((goalsK p M N _ _ p.toNat).length : Int) = p
    rw [goalsK_len]; omega
  · obtain ⟨x, hx, e⟩ := List.mem_iff_getElem.mp (show g ∈ goalsK p M N _ _ p.toNat from hg)
    have hx2 : x < p.toNat := by rw [goalsK_len] at hx; exact hx
    have := goalsK_at (p := p) (M := M) (N := N) ((keyJ p M N s0 i).getD i (0, 0)) (keyJ p M N s0 i) p.toNat x hx2
    rw [List.getElem?_eq_getElem hx, e] at this
    rw [Option.some.inj this]
    have hm := rowK_has (p := p) (M := M) (N := N) ((keyJ p M N s0 i).getD i (0, 0)) (keyJ p M N s0 i) hx2
    have l1 := plc_lt hm
    obtain ⟨r, e2⟩ := keyJ_pre (p := p) (M := M) (N := N) s0 (i + 1) (J - (i + 1))
    rw [show i + 1 + (J - (i + 1)) = J by omega, keyJ] at e2
    have l2 := D.stop
    rw [e2, List.length_append] at l2
    omega
end
end Tw
namespace Tw
open PySem PySem.Spec PyProof.Rows L2
/-! ### x * y by an own __mul__ -/
section
variable {X : Cx} {n : Nat} {C : Addr}
structure Om (P : Program) (w : World) (K : PySem.W.Frag) (mg : Str → Option Value) (base : Heap) (k : Nat) (C : Addr) (ps : List Str) (sp : Sp) : Prop where
  ex : ∃ f fd, PySem.W.findIn K (.ref C) "__mul__" = some (some (.ref f)) ∧ PySem.W.isFn K (.ref f) = true ∧ Binds K fd ps [] ∧ FnOk P w K mg base CX0 k f fd ps sp
  sf : PySem.W.selfFirst K C = true
end
end Tw
namespace Tw
open PySem PySem.Spec PyProof.Rows L2
/-! ### lists of pairs of whole numbers, as data -/
def keyD (k : Key2) : PyData := .tuple [.int k.1, .int k.2]
def KyAt (H : Hp) (v : V) (k : Key2) : Prop := ∃ a, v = .ref a ∧ H a = some (.tup [.int k.1, .int k.2])
def KysAt (H : Hp) (xs : List V) (ks : List Key2) : Prop := xs.length = ks.length ∧ ∀ (i : Nat) x k, xs[i]? = some x → ks[i]? = some k → KyAt H x k
theorem KyAt.same {H H' : Hp} {v : V} {k : Key2} (h : KyAt H v k) (e : Same H H') : KyAt H' v k := by
  obtain ⟨a, rfl, h1⟩ := h
  exact ⟨a, rfl, e _ _ h1⟩
theorem KysAt.same {H H' : Hp} {xs : List V} {ks : List Key2} (h : KysAt H xs ks) (e : Same H H') : KysAt H' xs ks := ⟨h.1, fun i x k h1 h2 => (h.2 i x k h1 h2).same e⟩
theorem KyAt.lst {H : Hp} {v : V} {k : Key2} {r : Addr} {ys zs : List V} (x : KyAt H v k) (h : H r = some (.lst ys)) : KyAt (upd H r (.lst zs)) v k := by
  obtain ⟨a, rfl, h1⟩ := x
  exact ⟨a, rfl, by rw [upd_ne (ne_of h1 h (by intro q; cases q))]; exact h1⟩
theorem KysAt.lst {H : Hp} {xs : List V} {ks : List Key2} {r : Addr} {ys zs : List V} (x : KysAt H xs ks) (h : H r = some (.lst ys)) : KysAt (upd H r (.lst zs)) xs ks := ⟨x.1, fun i v k h1 h2 => (x.2 i v k h1 h2).lst h⟩
theorem KysAt.snoc {H : Hp} {xs : List V} {ks : List Key2} {v : V} {k : Key2} (x : KysAt H xs ks) (y : KyAt H v k) : KysAt H (xs ++ [v]) (ks ++ [k]) := by
  refine ⟨by simp [x.1], fun i u c h1 h2 => ?_⟩
  by_cases e : i < xs.length
  · rw [List.getElem?_append_left e] at h1
    rw [List.getElem?_append_left (by rw [← x.1]; exact e)] at h2
    exact x.2 i u c h1 h2
  · rw [List.getElem?_append_right (by omega)] at h1
    rw [List.getElem?_append_right (by rw [← x.1]; omega), ← x.1] at h2
    have z : i - xs.length = 0 := by
      rcases Nat.eq_zero_or_pos (i - xs.length) with z | z
      · exact z
      · rw [List.getElem?_eq_none (by simp; omega)] at h1; cases h1
    rw [z] at h1 h2
    obtain rfl := Option.some.inj h1
    obtain rfl := Option.some.inj h2
    exact y
theorem eqv_key (k c : Key2) : PyData.eqv (keyD k) (keyD c) = decide (k = c) := by
  obtain ⟨a, b⟩ := k
  obtain ⟨d, e⟩ := c
  unfold keyD
  rw [PyData.eqv, PyData.eqvAll, PyData.eqvAll, PyData.eqvAll, PyData.eqv, PyData.eqv]
  by_cases h : a = d <;> by_cases g : b = e <;> simp [h, g]
theorem any_key (ks : List Key2) (k : Key2) : ((ks.map keyD).any fun z => PyData.eqv z (keyD k)) = decide (k ∈ ks) := by
  induction ks with
  | nil => rfl
  | cons c r ih =>
    rw [List.map_cons, List.any_cons, ih, eqv_key]
    by_cases h : c = k
    · subst h; simp
    · have h2 : ¬ k = c := fun e => h e.symm
      simp [h, h2]
theorem lay_key (k : Key2) : PyData.canLay0 (keyD k) = true := by
  unfold keyD
  rw [PyData.canLay0, PyData.canLayAll0, PyData.canLayAll0, PyData.canLayAll0, PyData.canLay0, PyData.canLay0]
  rfl
theorem depth_key (k : Key2) : PyData.depth (keyD k) = 1 := by
  unfold keyD
  rw [PyData.depth, PyData.depthAll, PyData.depthAll, PyData.depthAll, PyData.depth, PyData.depth]
  rfl
theorem lay_keys : ∀ M : List Key2, PyData.canLayAll0 (M.map keyD) = true
  | [] => by simp [PyData.canLayAll0]
  | d :: r => by rw [List.map_cons, PyData.canLayAll0, lay_keys r, lay_key]; rfl
theorem depth_keys : ∀ M : List Key2, PyData.depthAll (M.map keyD) ≤ 1
  | [] => by simp [PyData.depthAll]
  | d :: r => by
    rw [List.map_cons, PyData.depthAll, depth_key]
    have := depth_keys r
    omega
theorem shaped_key (k : Key2) : SeqAt.shaped (keyD k) = true := by
  unfold SeqAt.shaped
  rw [lay_key, depth_key]; rfl
theorem shaped_keys (M : List Key2) : SeqAt.shaped (.list (M.map keyD)) = true := by
  have h := depth_keys M
  unfold SeqAt.shaped
  rw [PyData.canLay0, PyData.depth, lay_keys]
  simp only [Bool.true_and, decide_eq_true_eq]
  omega
theorem dp_key {K : PySem.W.Frag} {H : Hp} {v : V} {k : Key2} (h : KyAt H v k) : Dp K H v (keyD k) := by
  obtain ⟨a, rfl, h1⟩ := h
  exact .tup (SqT.of h1) (.cons (.int k.1) (.cons (.int k.2) .nil))
theorem dp_keys {K : PySem.W.Frag} {H : Hp} : ∀ (xs : List V) (ks : List Key2), KysAt H xs ks → DpAll K H xs (ks.map keyD)
  | [], [], _ => .nil
  | [], s :: r, h => by cases h.1
  | x :: xs, [], h => by cases h.1
  | x :: xs, s :: r, h => .cons (dp_key (h.2 0 x s rfl rfl)) (dp_keys xs r ⟨Nat.succ.inj h.1, fun i y t h1 h2 => h.2 (i + 1) y t h1 h2⟩)
theorem notIn_keys {K : PySem.W.Frag} {H : Hp} {v : V} {b : Addr} {xs : List V} {ks : List Key2} {k : Key2} {Q : V → Hp → Prop} (hv : KyAt H v k) (hb : H b = some (.lst xs)) (hx : KysAt H xs ks) (q : Q (.bl (!decide (k ∈ ks))) H) : rNotInD K v (.ref b) H Q := by
  refine ⟨_, _, dp_key hv, .lst (SqL.of hb) (dp_keys xs ks hx), shaped_key k, shaped_keys ks, ?_⟩
  rw [any_key]
  exact q
theorem plc_first : ∀ {ks : List Key2} {k : Key2} (m : Nat) (c : Key2), m < plc ks k → ks[m]? = some c → c ≠ k
  | [], k, m, c, h, e => by cases e
  | d :: r, k, m, c, h, e => by
    unfold plc at h
    by_cases z : d = k
    · rw [if_pos z] at h; exact absurd h (Nat.not_lt_zero m)
    · rw [if_neg z] at h
      match m, e with
      | 0, e => obtain rfl := Option.some.inj e; exact z
      | m + 1, e => exact plc_first m c (by omega) e
theorem index_keys {K : PySem.W.Frag} {H : Hp} {v : V} {b : Addr} {xs : List V} {ks : List Key2} {k : Key2} {Q : V → Hp → Prop} (hv : KyAt H v k) (hb : H b = some (.lst xs)) (hx : KysAt H xs ks) (hm : k ∈ ks) (q : Q (.int (plc ks k : Nat)) H) : rIndexD K (.ref b) [v] H Q := by
  refine ⟨b, v, _, _, plc ks k, keyD k, rfl, rfl, .lst (SqL.of hb) (dp_keys xs ks hx), dp_key hv, shaped_keys ks, shaped_key k, ?_, ?_, fun m z hmm hz => ?_, q⟩
  · rw [List.getElem?_map, plc_mem hm]; rfl
  · rw [eqv_key]; simp
  · rw [List.getElem?_map] at hz
    cases e : ks[m]? with
    | none => rw [e] at hz; cases hz
    | some c =>
      rw [e] at hz
      obtain rfl := Option.some.inj hz
      rw [eqv_key]
      exact decide_eq_false (plc_first m c hmm e)
end Tw
namespace Tw
open PySem PySem.Spec PyProof.Rows L2
/-! ### {k: v}, the key a tuple -/
end Tw
namespace Tw
open PySem PySem.Spec PyProof.Rows L2
/-! ### what a dict of places holds -/
def kys (c : Key2) : List Key := [.inl c.1, .inl c.2]
theorem kys_inj {c d : Key2} (h : kys c = kys d) : c = d := by
  unfold kys at h
  injection h with h1 h2
  injection h2 with h2 _
  injection h1 with h1
  injection h2 with h2
  exact Prod.ext h1 h2
structure PlOk (kvs : List (List Key × V)) (ks : List Key2) : Prop where
  len : kvs.length ≤ ks.length
  val : ∀ c, valV kvs (kys c) = if c ∈ ks then some (.int (plc ks c : Nat)) else none
theorem pl_add {kvs : List (List Key × V)} {ks : List Key2} {c : Key2} (h : PlOk kvs ks) (hn : c ∉ ks) : PlOk (putK kvs (kys c) (.int (ks.length : Nat))) (ks ++ [c]) := by
  refine ⟨?_, fun d => ?_⟩
  · have := length_putK kvs (kys c) (.int (ks.length : Nat))
    have := h.len
    rw [List.length_append]
    show _ ≤ ks.length + 1
    omega
  · rw [valV_put]
    by_cases e : d = c
    · subst e
      rw [if_pos rfl, if_pos (by simp), plc_snoc hn]
    · rw [if_neg (fun z => e (kys_inj z)), h.val d]
      by_cases m : d ∈ ks
      · rw [if_pos m, if_pos (List.mem_append_left _ m), plc_app _ m]
      · rw [if_neg m, if_neg (fun z => (List.mem_append.mp z).elim m fun z => e (List.mem_singleton.mp z))]
/-- the dict d holds the places of ks -/
def PlAt (H : Hp) (d : Addr) (ks : List Key2) : Prop := ∃ kvs, H d = some (.dT kvs) ∧ PlOk kvs ks
theorem PlAt.get {H : Hp} {d a : Addr} {ks : List Key2} {c : Key2} (h : PlAt H d ks) (ha : H a = some (.tup [.int c.1, .int c.2])) : DGet H d (.ref a) (if c ∈ ks then some (.int (plc ks c : Nat)) else none) := by
  obtain ⟨kvs, hd, ok⟩ := h
  rw [← ok.val c]
  exact DGet.t hd ha
theorem PlAt.put {H : Hp} {d a : Addr} {ks : List Key2} {c : Key2} (h : PlAt H d ks) (ha : H a = some (.tup [.int c.1, .int c.2])) (hn : c ∉ ks) (hl : ks.length < 1000) : ∃ kvs, DPut H d (.ref a) (.int (ks.length : Nat)) (upd H d (.dT kvs)) ∧ PlAt (upd H d (.dT kvs)) d (ks ++ [c]) := by
  obtain ⟨kvs, hd, ok⟩ := h
  have := ok.len
  exact ⟨_, DPut.t (k := kys c) hd ha (small1000 (by omega)), _, upd_same, pl_add ok hn⟩
end Tw
namespace Tw
open PySem PySem.Spec PyProof.Rows L2
/-! ### len(x) by an own __len__; == of tuples and lists of ints; more of nested equality -/
section
variable {X : Cx} {n : Nat} {C : Addr}
def rLenO (C : Addr) (sp : Sp) : List V → Hp → VK → Prop := fun vs H Q => ∃ a dx fs, vs = [.ref a] ∧ H a = some (.ins C dx fs) ∧ sp [.ref a] H (fun v H' => ∃ k : Int, v = .int k ∧ 0 ≤ k ∧ k < 2 ^ 63 ∧ Q (.int k) H') E0
structure Ol (P : Program) (w : World) (K : PySem.W.Frag) (mg : Str → Option Value) (base : Heap) (k : Nat) (C : Addr) (ps : List Str) (sp : Sp) : Prop where
  ex : ∃ f fd, PySem.W.findIn K (.ref C) "__len__" = some (some (.ref f)) ∧ PySem.W.isFn K (.ref f) = true ∧ Binds K fd ps [] ∧ FnOk P w K mg base CX0 k f fd ps sp
theorem run_own1 {f : Addr} {fd : FuncData} {ps : List Str} {sp : Sp} {pins : List (Addr × Obj)} {σ : L2.St} {H : Hp} {s : Shared} {A : Around} {a : Addr} {Q : VK} (hf : A.frames = X.A.frames) (hr : Room n A) (F : FnOk X.prog X.w X.K X.mg X.base CX0 n f fd ps sp) (hb : Binds X.K fd ps [])
    (I : Inv X pins σ H s) (h : sp [.ref a] H Q E0) : wpAny (model X.prog X.w) A (call (.ref f) [.ref a]) (fun u s' => ∃ v H', Inv X pins σ H' s' ∧ RelV v u ∧ Q v H') X.xe s := by
  have e0 : Env0 X.prog X.w X.K X.mg X.base A X.stack s H := by
    have e := I.env0
    exact ⟨by rw [hf]; exact e.frames, e.mod, e.bs, e.bsz, e.funs, e.frf, e.hok, e.bare⟩
  have hl := F.len _ _ _ _ h
  have r2 : Vals [V.ref a] [Value.ref a] := .cons rfl .nil
  refine wpAny_call (codeAny_mono (F.run A X.stack s H ⟨[.ref a], []⟩ [.ref a] [.ref a] Q E0 hr e0 (by
    have := hb s [.ref a] I.kIn (by simpa using hl)
    simpa using this) r2 h) fun r s' hq => ?_)
  cases r with
  | error e => exact hq.elim
  | ok fl =>
    cases fl with
    | ret u =>
      obtain ⟨v, H', I', rv, q⟩ := I.after hq
      exact ⟨v, H', I', rv, q⟩
    | next => exact hq.elim
    | brk => exact hq.elim
    | cont => exact hq.elim
theorem call_lenO {ps : List Str} {sp : Sp} (W : Ol X.prog X.w X.K X.mg X.base n C ps sp) (hr : Room (n + 1) X.A) : CallR X (.builtin "len") (rLenO C sp) := by
  intro pins s σ H xs us Q I r h
  obtain ⟨a, dx, fs, rfl, ha, q⟩ := h
  obtain ⟨f, fd, hs, hf, hbb, F⟩ := W.ex
  obtain ⟨u, rfl, ru⟩ := vals1 r
  cases ru
  obtain ⟨mA, J, _⟩ := ins_get I.hok ha
  obtain ⟨od, J, _⟩ := J.look
  obtain ⟨m, hF⟩ := I.fr
  refine PySem.W.len_K hF I.ok.mod.kin J hs hf (wpAny_mono (run_own1 (A := X.A.in1) rfl hr.in1 F hbb I q) (fun r s' z => ?_) fun _ _ x => x)
  obtain ⟨v, H', I', rv, c, rfl, k0, k1, qq⟩ := z
  obtain ⟨t, rfl⟩ := rv
  exact ⟨⟨k0, k1⟩, .int c, H', I'.tok _, ⟨_, rfl⟩, qq⟩
theorem n_lenO {P : Program} {w : World} {K : PySem.W.Frag} {mg : Str → Option Value} {base : Heap} {j n : Nat} {X : Cx} {NS WS : List (Str × Nat)} {G : List Str} {ps : List Str} {sp : Sp} {p pos : Pos} {e : Expr} {es : List Expr} {t : TA} (h : Nm P w K mg base j X NS WS G) (hm : mg "len" = none) (hg : ("len" : Str) ∈ G) (W : Ol P w K mg base n C ps sp) (hk : n + 1 ≤ j) (ha : PA X (e :: es) t)
    (he : starEach (e :: es) X.env = (false, eval e X.env) :: starEach es X.env := by rfl) (hpl : (backTo pos (starEach es X.env)).any (·.1) = false := by rfl) : PE X (.Call (.Name "len" p) (e :: es) [] pos) (tCB (rLenO C sp) t) := by
  have h' := h
  obtain ⟨h1, h2, h3, h4, h5, hr, _, _, _, _, hgl⟩ := h'
  subst h1 h2 h3 h4 h5
  exact n_b h hm (call_lenO W (hr.mono hk)) PySem.boot_len hg ha he hpl
end
/-- lists and tuples item by item -/
inductive AllEqd (K : PySem.W.Frag) (H : Hp) (n : Nat) : List V → List V → Prop
  | nil : AllEqd K H n [] []
  | cons {x y : V} {xs ys : List V} (h : Eqd K H n x y) (t : AllEqd K H n xs ys) : AllEqd K H n (x :: xs) (y :: ys)
theorem all_at {K : PySem.W.Frag} {H : Hp} {n : Nat} {xs ys : List V} (h : AllEqd K H n xs ys) : ∀ (i : Nat) x y, xs[i]? = some x → ys[i]? = some y → Eqd K H n x y := by
  induction h with
  | nil => intro i x y h1 _; simp at h1
  | cons h t ih =>
    intro i x y h1 h2
    match i, h1, h2 with
    | 0, h1, h2 =>
      obtain rfl := Option.some.inj h1
      obtain rfl := Option.some.inj h2
      exact h
    | i + 1, h1, h2 => exact ih i x y h1 h2
theorem all_len {K : PySem.W.Frag} {H : Hp} {n : Nat} {xs ys : List V} (h : AllEqd K H n xs ys) : xs.length = ys.length := by
  induction h with
  | nil => rfl
  | cons h t ih => simp only [List.length_cons, ih]
theorem eqd_lst {K : PySem.W.Frag} {H : Hp} {n : Nat} {a b : Addr} {xs ys : List V} (ha : H a = some (.lst xs)) (hb : H b = some (.lst ys)) (hz : xs.length ≤ 1000) (h : AllEqd K H n xs ys) : Eqd K H (n + 1) (.ref a) (.ref b) :=
  .lst (SqL.of ha) (SqL.of hb) (all_len h) hz (all_at h)
end Tw
namespace Tw
open PySem PySem.Spec PyProof.Rows L2
/-! ### counts, their next ones, their totals -/
def firstC (M : Mach) (st : Int) : List Int := (List.range M.length).map fun (i : Nat) => if (i : Int) = st then 1 else 0
def addA (l : List Int) (g c : Int) : List Int := l.set g.toNat (l.getD g.toNat 0 + c)
def addR (l gs : List Int) (c : Int) : List Int := gs.foldl (fun l g => addA l g c) l
def sumC (M : Mach) (cs : List Int) : Nat → List Int
  | 0 => List.replicate M.length 0
  | k + 1 => addR (sumC M cs k) (M.getD k (0, [])).2 (cs.getD k 0)
def nextC (p : Int) (M : Mach) (cs : List Int) : List Int := (sumC M cs M.length).map (· % p)
def prodC (M : Mach) (cs : List Int) : List Int := (List.range M.length).map fun k => cs.getD k 0 * (M.getD k (0, [])).1
def totC (p : Int) (M : Mach) (cs : List Int) : Int := (prodC M cs).sum % p
structure CsOk (p : Int) (M : Mach) (cs : List Int) : Prop where
  len : cs.length = M.length
  val : ∀ d ∈ cs, 0 ≤ d ∧ d < p
theorem addA_len (l : List Int) (g c : Int) : (addA l g c).length = l.length := by unfold addA; rw [List.length_set]
theorem addR_len (gs : List Int) (c : Int) : ∀ l : List Int, (addR l gs c).length = l.length := by
  induction gs with
  | nil => intro l; rfl
  | cons g r ih => intro l; show (addR (addA l g c) r c).length = _; rw [ih, addA_len]
theorem sumC_len (M : Mach) (cs : List Int) : ∀ k, (sumC M cs k).length = M.length
  | 0 => by simp [sumC]
  | k + 1 => by rw [sumC, addR_len, sumC_len M cs k]
theorem addR_snoc (l gs : List Int) (g c : Int) : addR l (gs ++ [g]) c = addA (addR l gs c) g c := by unfold addR; rw [List.foldl_append]; rfl
theorem nextC_ok {p : Int} (hP : IsP p) (M : Mach) (cs : List Int) : CsOk p M (nextC p M cs) := by
  have p2 := hP.two
  refine ⟨by unfold nextC; rw [List.length_map, sumC_len], fun d hd => ?_⟩
  obtain ⟨x, _, rfl⟩ := List.mem_map.mp hd
  exact md_in hP x
theorem firstC_ok {p : Int} (hP : IsP p) (M : Mach) (st : Int) : CsOk p M (firstC M st) := by
  have p2 := hP.two
  refine ⟨by unfold firstC; rw [List.length_map, List.length_range], fun d hd => ?_⟩
  obtain ⟨i, _, rfl⟩ := List.mem_map.mp hd
  show 0 ≤ (if (i : Int) = st then (1 : Int) else 0) ∧ (if (i : Int) = st then (1 : Int) else 0) < p
  split <;> omega
/-! the law's own: a rest behind each step -/
theorem md_add (h : IsP p) (a c : Int) : (a % p + c) % p = (a + c) % p := by rcases h with rfl | rfl | rfl | rfl <;> omega
theorem getD_md {p : Int} (l : List Int) (i : Nat) : (l.map (· % p)).getD i 0 = (l.getD i 0) % p := by
  rw [List.getD_eq_getElem?_getD, List.getD_eq_getElem?_getD, List.getElem?_map]
  cases l[i]? with
  | none => simp
  | some x => rfl
/-! ### walks over pairs of a list or a tuple and a list -/
theorem pi_or {X : Cx} {tg it : Expr} {wa wb : TI} (ha : PI X tg it wa) (hb : PI X tg it wb) : PI X tg it (fun σ H R => wa σ H R ∨ wb σ H R) := by
  refine ⟨fun pins s σ H R I h => ?_⟩
  rcases h with h | h
  · exact ha.run pins s σ H R I h
  · exact hb.run pins s σ H R I h
/-- pairs, one by one; S: what holds of the heap meanwhile -/
structure PairsJ (J : It) (S : Hp → Prop) (xs ys : List V) : Prop where
  go : ∀ H (j : Nat) x y, S H → xs[j]? = some x → ys[j]? = some y → J.go j H
  stop : ∀ H, S H → J.stop xs.length H
  yl : ∀ H (j : Nat) v H', S H → J.yld j H v H' → ∃ T x y, v = .ref T ∧ H T = none ∧ H' = upd H T (.tup [x, y]) ∧ xs[j]? = some x ∧ ys[j]? = some y
theorem pj_L {K : PySem.W.Frag} {a b : Addr} {xs ys : List V} {S : Hp → Prop} (h : ∀ H, S H → SqL K H a xs ∧ SqL K H b ys) : PairsJ (Itz K a b) S xs ys := by
  refine ⟨fun H j x y s1 h1 h2 => ⟨xs, ys, x, y, (h H s1).1, (h H s1).2, h1, h2⟩, fun H s1 => ⟨xs, ys, (h H s1).1, (h H s1).2, .inl (Nat.le_refl _)⟩, fun H j v H' s1 hy => ?_⟩
  obtain ⟨T, u, z, e1, e2, e3, e4, e5⟩ := hy
  exact ⟨T, u, z, e1, e2, e3, e4 xs (h H s1).1, e5 ys (h H s1).2⟩
theorem pj_M {K : PySem.W.Frag} {a b : Addr} {xs ys : List V} {S : Hp → Prop} (hl : xs.length = ys.length) (h : ∀ H, S H → SqT K H a xs ∧ SqL K H b ys) : PairsJ (ItzM K a b) S xs ys := by
  refine ⟨fun H j x y s1 h1 h2 => ⟨xs, ys, x, y, (h H s1).1, (h H s1).2, h1, h2⟩, fun H s1 => ⟨xs, ys, (h H s1).1, (h H s1).2, hl, rfl⟩, fun H j v H' s1 hy => ?_⟩
  obtain ⟨T, u, z, e1, e2, e3, e4, e5⟩ := hy
  exact ⟨T, u, z, e1, e2, e3, e4 xs (h H s1).1, e5 ys (h H s1).2⟩
/-- a loop over such pairs -/
theorem for_pairs {J : It} {S : Hp → Prop} {xs ys : List V} {g : TG} {tb : TS} {D : Ends} {σ : L2.St} {H : Hp} (hj : PairsJ J S xs ys) (hl : xs.length = ys.length) (Pv : Nat → L2.St → Hp → Prop) (h0 : Pv 0 σ H) (hq : ∀ i σ H, Pv i σ H → S H)
    (hs : ∀ (i : Nat) (x y : V) (T : Addr) (σ : L2.St) (H : Hp), xs[i]? = some x → ys[i]? = some y → Pv i σ H → H T = none → g (.ref T) σ (upd H T (.tup [x, y])) fun σ2 H2 => tb { D with nx := Pv (i + 1), ct := Pv (i + 1), bk := D.nx } σ2 H2) (hd : ∀ σ H, Pv xs.length σ H → D.nx σ H) :
    ∃ W : Nat → Nat → L2.St → Hp → Prop, (∃ m, W 0 m σ H) ∧ ∀ i m σ H, W i m σ H →
      (J.stop i H ∧ D.nx σ H) ∨ (J.go i H ∧ ∃ N : L2.St → Hp → Prop, (∀ σ' H', N σ' H' → ∃ m', m' < m ∧ W (i + 1) m' σ' H') ∧ ∀ v H', J.yld i H v H' → g v σ H' fun σ2 H2 => tb { D with nx := N, ct := N, bk := D.nx } σ2 H2) := by
  refine ⟨fun i m σ H => m = xs.length - i ∧ i ≤ xs.length ∧ Pv i σ H, ⟨xs.length, rfl, Nat.zero_le _, h0⟩, ?_⟩
  rintro i m σ H ⟨rfl, hi, p⟩
  have s1 := hq i σ H p
  by_cases hlt : i < xs.length
  · have hx : xs[i]? = some xs[i] := List.getElem?_eq_getElem hlt
    have hlt2 : i < ys.length := by omega
    have hy : ys[i]? = some ys[i] := List.getElem?_eq_getElem hlt2
    refine .inr ⟨hj.go H i _ _ s1 hx hy, Pv (i + 1), fun σ' H' p' => ⟨xs.length - (i + 1), by omega, rfl, hlt, p'⟩, fun v H' y => ?_⟩
    obtain ⟨T, x', y', rfl, hT, rfl, f1, f2⟩ := hj.yl H i v H' s1 y
    exact hs i x' y' T σ H f1 f2 p hT
  · have e : i = xs.length := by omega
    subst e
    exact .inl ⟨hj.stop H s1, hd σ H p⟩
/-- a comprehension over such pairs -/
theorem lc_pairs {J : It} {xs ys fs : List V} {g : TG} {te : TE} {vs : List Nat} {σ : L2.St} {H1 : Hp} {D : Addr} {Qd : Hp → Prop} (hj : PairsJ J (Same H1) xs ys) (hlen : xs.length = ys.length) (hD : H1 D = none) (hl : fs.length = xs.length) (hz : xs.length < sizeLine)
    (he : ∀ (j : Nat) x y z T H (Qk : V → Hp → Prop), xs[j]? = some x → ys[j]? = some y → fs[j]? = some z → Same H1 H → H T = none → (∀ H2, Same (upd H T (.tup [x, y])) H2 → Qk z H2) → g (.ref T) (wipe σ vs) (upd H T (.tup [x, y])) fun σ2 H2 => wipe σ2 vs = wipe σ vs ∧ te σ2 H2 Qk)
    (hd : ∀ H', Same H1 H' → H' D = some (.lst fs) → Qd H')
    (hgm : ∀ v σ H (A B : L2.St → Hp → Prop), (∀ σ H, A σ H → B σ H) → g v σ H A → g v σ H B) :
    ∃ W : Nat → Nat → Hp → Prop, (∃ m, W 0 m (upd H1 D (.lst []))) ∧ ∀ i' m H, W i' m H →
      (J.stop i' H ∧ Qd H) ∨ (J.go i' H ∧ ∃ Nx : Hp → Prop, (∀ H', Nx H' → ∃ m', m' < m ∧ W (i' + 1) m' H') ∧ ∀ x H', J.yld i' H x H' → g x (wipe σ vs) H' fun σ2 H2 => wipe σ2 vs = wipe σ vs ∧ tYes σ2 H2 fun b H3 =>
        if b = true then te σ2 H3 fun y H4 => ∃ acc, H4 D = some (.lst acc) ∧ acc.length < sizeLine ∧ Nx (upd H4 D (.lst (acc ++ [y]))) else Nx H3) := by
  refine ⟨fun j m H => m = xs.length - j ∧ j ≤ xs.length ∧ Same H1 H ∧ H D = some (.lst (fs.take j)), ⟨xs.length, rfl, Nat.zero_le _, same_new hD, by rw [upd_same]; rfl⟩, ?_⟩
  rintro j m H ⟨rfl, hj', s1, hDl⟩
  by_cases c : j < xs.length
  · have hx : xs[j]? = some xs[j] := List.getElem?_eq_getElem c
    have hyy : ys[j]? = some ys[j] := List.getElem?_eq_getElem (by omega)
    have hf : fs[j]? = some fs[j] := List.getElem?_eq_getElem (by omega)
    refine .inr ⟨hj.go H j _ _ s1 hx hyy, fun H' => Same H1 H' ∧ H' D = some (.lst (fs.take (j + 1))), fun H' p => ⟨xs.length - (j + 1), by omega, rfl, c, p⟩, ?_⟩
    intro v H' hyl
    obtain ⟨T, x, y, rfl, hT', rfl, ex, ey⟩ := hj.yl H j v H' s1 hyl
    have s2 : Same H (upd H T (.tup [x, y])) := same_new hT'
    refine hgm _ _ _ _ _ (fun σ2 H2 p => ⟨p.1, yes_ p.2⟩) (he j x y _ T H _ ex ey hf s1 hT' fun H2 s3 => ⟨_, s3 _ _ (s2 _ _ hDl), ?_, same_put (Same.trans (Same.trans s1 s2) s3) hD, ?_⟩)
    · rw [List.length_take]; omega
    · rw [upd_same, List.take_add_one, hf]; rfl
  · have e : j = xs.length := by omega
    subst e
    rw [← hl, List.take_length] at hDl
    exact .inl ⟨hj.stop H s1, hd H s1 hDl⟩
/-- items, one by one -/
structure SeqJ (J : It) (S : Hp → Prop) (xs : List V) : Prop where
  go : ∀ H (j : Nat) x, S H → xs[j]? = some x → J.go j H
  stop : ∀ H, S H → J.stop xs.length H
  yl : ∀ H (j : Nat) v H', S H → J.yld j H v H' → H' = H ∧ xs[j]? = some v
theorem sj_L {K : PySem.W.Frag} {a : Addr} {xs : List V} {S : Hp → Prop} (h : ∀ H, S H → SqL K H a xs) : SeqJ (Itl K a) S xs := by
  refine ⟨fun H j x s1 h1 => ⟨xs, x, h H s1, h1⟩, fun H s1 => ⟨xs, h H s1, Nat.le_refl _⟩, fun H j v H' s1 hy => ⟨hy.1, hy.2 xs (h H s1)⟩⟩
theorem sj_T {K : PySem.W.Frag} {a : Addr} {xs : List V} {S : Hp → Prop} (h : ∀ H, S H → SqT K H a xs) : SeqJ (Itt K a) S xs := by
  refine ⟨fun H j x s1 h1 => ⟨xs, x, h H s1, h1⟩, fun H s1 => ⟨xs, h H s1, Nat.le_refl _⟩, fun H j v H' s1 hy => ⟨hy.1, hy.2 xs (h H s1)⟩⟩
theorem for_seq {J : It} {S : Hp → Prop} {xs : List V} {g : TG} {tb : TS} {D : Ends} {σ : L2.St} {H : Hp} (hj : SeqJ J S xs) (Pv : Nat → L2.St → Hp → Prop) (h0 : Pv 0 σ H) (hq : ∀ i σ H, Pv i σ H → S H)
    (hs : ∀ (i : Nat) (x : V) (σ : L2.St) (H : Hp), xs[i]? = some x → Pv i σ H → g x σ H fun σ2 H2 => tb { D with nx := Pv (i + 1), ct := Pv (i + 1), bk := D.nx } σ2 H2) (hd : ∀ σ H, Pv xs.length σ H → D.nx σ H) :
    ∃ W : Nat → Nat → L2.St → Hp → Prop, (∃ m, W 0 m σ H) ∧ ∀ i m σ H, W i m σ H →
      (J.stop i H ∧ D.nx σ H) ∨ (J.go i H ∧ ∃ N : L2.St → Hp → Prop, (∀ σ' H', N σ' H' → ∃ m', m' < m ∧ W (i + 1) m' σ' H') ∧ ∀ v H', J.yld i H v H' → g v σ H' fun σ2 H2 => tb { D with nx := N, ct := N, bk := D.nx } σ2 H2) := by
  refine ⟨fun i m σ H => m = xs.length - i ∧ i ≤ xs.length ∧ Pv i σ H, ⟨xs.length, rfl, Nat.zero_le _, h0⟩, ?_⟩
  rintro i m σ H ⟨rfl, hi, p⟩
  have s1 := hq i σ H p
  by_cases hlt : i < xs.length
  · have hx : xs[i]? = some xs[i] := List.getElem?_eq_getElem hlt
    refine .inr ⟨hj.go H i _ s1 hx, Pv (i + 1), fun σ' H' p' => ⟨xs.length - (i + 1), by omega, rfl, hlt, p'⟩, fun v H' y => ?_⟩
    obtain ⟨rfl, f1⟩ := hj.yl H i v H' s1 y
    exact hs i v σ _ f1 p
  · have e : i = xs.length := by omega
    subst e
    exact .inl ⟨hj.stop H s1, hd σ H p⟩
theorem lc_seq {J : It} {xs fs : List V} {g : TG} {te : TE} {vs : List Nat} {σ : L2.St} {H1 : Hp} {D : Addr} {Qd : Hp → Prop} (hj : SeqJ J (Same H1) xs) (hD : H1 D = none) (hl : fs.length = xs.length) (hz : xs.length < sizeLine)
    (he : ∀ (j : Nat) x z H (Qk : V → Hp → Prop), xs[j]? = some x → fs[j]? = some z → Same H1 H → (∀ H2, Same H H2 → Qk z H2) → g x (wipe σ vs) H fun σ2 H2 => wipe σ2 vs = wipe σ vs ∧ te σ2 H2 Qk)
    (hd : ∀ H', Same H1 H' → H' D = some (.lst fs) → Qd H')
    (hgm : ∀ v σ H (A B : L2.St → Hp → Prop), (∀ σ H, A σ H → B σ H) → g v σ H A → g v σ H B) :
    ∃ W : Nat → Nat → Hp → Prop, (∃ m, W 0 m (upd H1 D (.lst []))) ∧ ∀ i' m H, W i' m H →
      (J.stop i' H ∧ Qd H) ∨ (J.go i' H ∧ ∃ Nx : Hp → Prop, (∀ H', Nx H' → ∃ m', m' < m ∧ W (i' + 1) m' H') ∧ ∀ x H', J.yld i' H x H' → g x (wipe σ vs) H' fun σ2 H2 => wipe σ2 vs = wipe σ vs ∧ tYes σ2 H2 fun b H3 =>
        if b = true then te σ2 H3 fun y H4 => ∃ acc, H4 D = some (.lst acc) ∧ acc.length < sizeLine ∧ Nx (upd H4 D (.lst (acc ++ [y]))) else Nx H3) := by
  refine ⟨fun j m H => m = xs.length - j ∧ j ≤ xs.length ∧ Same H1 H ∧ H D = some (.lst (fs.take j)), ⟨xs.length, rfl, Nat.zero_le _, same_new hD, by rw [upd_same]; rfl⟩, ?_⟩
  rintro j m H ⟨rfl, hj', s1, hDl⟩
  by_cases c : j < xs.length
  · have hx : xs[j]? = some xs[j] := List.getElem?_eq_getElem c
    have hf : fs[j]? = some fs[j] := List.getElem?_eq_getElem (by omega)
    refine .inr ⟨hj.go H j _ s1 hx, fun H' => Same H1 H' ∧ H' D = some (.lst (fs.take (j + 1))), fun H' p => ⟨xs.length - (j + 1), by omega, rfl, c, p⟩, ?_⟩
    intro v H' hyl
    obtain ⟨rfl, ex⟩ := hj.yl H j v H' s1 hyl
    refine hgm _ _ _ _ _ (fun σ2 H2 p => ⟨p.1, yes_ p.2⟩) (he j v _ _ _ ex hf s1 fun H2 s3 => ⟨_, s3 _ _ hDl, ?_, same_put (Same.trans s1 s3) hD, ?_⟩)
    · rw [List.length_take]; omega
    · rw [upd_same, List.take_add_one, hf]; rfl
  · have e : j = xs.length := by omega
    subst e
    rw [← hl, List.take_length] at hDl
    exact .inl ⟨hj.stop H s1, hd H s1 hDl⟩
theorem gm_name {i : Nat} : ∀ v σ H (A B : L2.St → Hp → Prop), (∀ σ H, A σ H → B σ H) → gName i v σ H A → gName i v σ H B := fun v σ H A B hh q => hh _ _ q
/-- f(k = e, ..), f a def of the text, nothing by position -/
structure DfK (P : Program) (w : World) (K : PySem.W.Frag) (mg : Str → Option Value) (base : Heap) (k : Nat) (x : Str) (ps ks : List Str) (gV : List V → List V → List V) (sp : Sp) : Prop where
  ex : ∃ f fd, ∃ g : List Value → List Value → List Value, mg x = some (.ref f) ∧ PySem.W.keepIn K (.ref f) = true ∧ KBn K fd ps 0 ks g gV ∧ FnOk P w K mg base CX0 k f fd ps sp
def g1 {α : Type} (_ zs : List α) : List α := zs
end Tw
namespace Tw
open PySem PySem.Spec PyProof.Rows L2
/-! ### xs[i] op= e; targets of any nesting; small things -/
def rGetN (K : PySem.W.Frag) : V → V → Hp → VK → Prop := fun x y H Q => ∃ p xs i v, x = .ref p ∧ y = .int i ∧ SqL K H p xs ∧ 0 ≤ i ∧ xs[i.toNat]? = some v ∧ Q v H
theorem get_listN {X : Cx} : PGet X (rGetN X.K) := by
  intro pins s σ H o i ov iv Q I ro ri h
  obtain ⟨p, xs, k, z, rfl, rfl, hq, h0, he, q⟩ := h
  cases ro
  obtain ⟨t, rfl⟩ := ri
  obtain ⟨its, r, pl, hz⟩ := I.list hq
  obtain ⟨w, ew, rw'⟩ := r.get he
  have hl := r.length
  have hn := line63
  have hk : k.toNat < xs.length := (List.getElem?_eq_some_iff.mp he).1
  exact wpAny_getItem_list pl.isList h0 (by omega) (by simpa using ew) ⟨z, H, I, rw', q⟩
theorem n_getN {P : Program} {w : World} {K : PySem.W.Frag} {mg : Str → Option Value} {base : Heap} {j : Nat} {X : Cx} {NS WS : List (Str × Nat)} {G : List Str} (h : Nm P w K mg base j X NS WS G) : PGet X (rGetN K) := by
  have q := h.eK
  subst q
  exact get_listN
theorem ix_in {n : Nat} {i : Int} (i0 : 0 ≤ i) (i1 : i < (n : Int)) : ixN n i = some i.toNat := by
  unfold ixN
  rw [if_pos i0, if_pos i1]
def GmS (g : TGs) : Prop := ∀ vs σ H (A B : L2.St → Hp → Prop), (∀ σ H, A σ H → B σ H) → g vs σ H A → g vs σ H B
def Gm (g : TG) : Prop := ∀ v σ H (A B : L2.St → Hp → Prop), (∀ σ H, A σ H → B σ H) → g v σ H A → g v σ H B
theorem gms_nil : GmS gNil := fun vs σ H A B hh q => ⟨q.1, hh _ _ q.2⟩
theorem gms_cons {g : TG} {gs : TGs} (h : Gm g) (hs : GmS gs) : GmS (gCons g gs) := by
  intro vs σ H A B hh q
  obtain ⟨v, r, e, q⟩ := q
  exact ⟨v, r, e, h v σ H _ _ (fun σ' H' z => hs r σ' H' A B hh z) q⟩
theorem gm_tup {K : PySem.W.Frag} {n : Nat} {gs : TGs} (h : GmS gs) : Gm (gTup K n gs) := by
  intro v σ H A B hh q
  obtain ⟨a, xs, e, h1, h2, q⟩ := q
  exact ⟨a, xs, e, h1, h2, h xs σ H A B hh q⟩
theorem gm_nm {i : Nat} : Gm (gName i) := fun v σ H A B hh q => hh _ _ q
theorem map_set_int (l : List Int) (i : Nat) (x : Int) : (l.map V.int).set i (V.int x) = (l.set i x).map V.int := by rw [List.map_set]
theorem map_get_int {l : List Int} {i : Nat} (h : i < l.length) : (l.map V.int)[i]? = some (V.int (l.getD i 0)) := by
  rw [List.getElem?_map, List.getD_eq_getElem?_getD, List.getElem?_eq_getElem h]
  rfl
theorem rep_int (n : Nat) : (List.replicate n [V.int 0]).flatten = (List.replicate n (0 : Int)).map V.int := by
  rw [flat_rep, List.map_replicate]
theorem StsAt.keepT {H H' : Hp} {xs : List V} {M : List (Int × List Int)} {q : Addr} {ys : List V} (x : StsAt H xs M) (hq : H q = some (.lst ys)) (k : Keep q H H') : StsAt H' xs M := ⟨x.1, fun i v s h1 h2 => by
  obtain ⟨a, g, rfl, e1, e2⟩ := x.2 i v s h1 h2
  exact ⟨a, g, rfl, k a _ (ne_of e1 hq (by intro z; cases z)) e1, k g _ (ne_of e2 hq (by intro z; cases z)) e2⟩⟩
end Tw
namespace Tw
open PySem PySem.Spec PyProof.Rows L2
/-! ### states in the order in which they are reached -/
def addI (ks : List Int) (g : Int) : List Int := if g ∈ ks then ks else ks ++ [g]
def rowI (ks gs : List Int) : List Int := gs.foldl addI ks
def ordJ (M : Mach) (s0 : Int) : Nat → List Int
  | 0 => [s0]
  | j + 1 => rowI (ordJ M s0 j) (M.getD ((ordJ M s0 j).getD j 0).toNat (0, [])).2
def InI (n : Int) (ks : List Int) : Prop := ∀ c ∈ ks, 0 ≤ c ∧ c < n
theorem nodup_leI : ∀ {ks all : List Int}, ks.Nodup → ks ⊆ all → ks.length ≤ all.length
  | [], _, _, _ => Nat.zero_le _
  | c :: r, all, hn, hs => by
    have hc : c ∈ all := hs List.mem_cons_self
    have hr : r.Nodup := (List.nodup_cons.mp hn).2
    have hcr : c ∉ r := (List.nodup_cons.mp hn).1
    have h := nodup_leI (all := all.erase c) hr fun d hd => (List.mem_erase_of_ne (fun e : d = c => hcr (by rw [← e]; exact hd))).mpr (hs (List.mem_cons_of_mem _ hd))
    rw [List.length_erase_of_mem hc] at h
    have : 0 < all.length := List.length_pos_of_mem hc
    rw [List.length_cons]
    omega
theorem inI_len {n : Nat} {ks : List Int} (hn : ks.Nodup) (h : InI (n : Int) ks) : ks.length ≤ n := by
  have hs : ks ⊆ (List.range n).map fun (a : Nat) => (a : Int) := fun c hc => by
    have := h c hc
    exact List.mem_map.mpr ⟨c.toNat, List.mem_range.mpr (by omega), by omega⟩
  have := nodup_leI hn hs
  rw [List.length_map, List.length_range] at this
  exact this
section
variable {M : Mach} {p : Int}
structure DoneI (M : Mach) (s0 : Int) (J : Nat) : Prop where
  go : ∀ i, i < J → i < (ordJ M s0 i).length
  stop : (ordJ M s0 J).length = J
theorem DoneI.one {s0 : Int} {J L : Nat} (a : DoneI M s0 J) (b : DoneI M s0 L) : J = L := by
  rcases Nat.lt_trichotomy J L with h | h | h
  · have := b.go J h
    have := a.stop
    omega
  · exact h
  · have := a.go L h
    have := b.stop
    omega
end
/-- the dict of what is found -/
structure FdOk (kvs : List (Key × V)) (ks : List Int) : Prop where
  len : kvs.length ≤ ks.length
  val : ∀ c : Int, valV kvs (.inl c : Key) = if c ∈ ks then some (.bl true) else none
end Tw
namespace Tw
open PySem PySem.Spec PyProof.Rows L2 TL
/-! ### texts of turners, as lists of signs -/
/-! splitting -/
/-! numbers of at most three digits -/
end Tw
namespace Tw
open PySem PySem.Spec PyProof.Rows L2 TL
/-! ### texts walked; a class in a local name; classmethods; lists unpacked -/
section
variable {P : Program} {w : World} {K : PySem.W.Frag} {mg : Str → Option Value} {base : Heap} {j k n : Nat} {X : Cx} {NS WS : List (Str × Nat)} {G : List Str} {x : Str} {i : Nat} {p apos pos : Pos} {e o : Expr} {es : List Expr} {kws : List Keyword} {t tk : TA} {ps ks : List Str} {sp : Sp} {te ta : TE} {C : Addr} {m : Str}
/-- a classmethod of C -/
structure CMf (P : Program) (w : World) (K : PySem.W.Frag) (mg : Str → Option Value) (base : Heap) (k : Nat) (C : Addr) (m : Str) (sp : Sp) : Prop where
  ex : ∃ mc q g, ClX.CRead K C mc ∧ ClX.CMet K C mc m q g ∧ FnR P w K mg base CX0 k g sp
end
end Tw
namespace Tw
open PySem PySem.Spec PyProof.Rows L2 TL
end Tw
namespace Tw
open PySem PySem.Spec PyProof.Rows L2 TL
/-! ### counts step by step -/
def itC (p : Int) (M : Mach) (st : Int) : Nat → List Int
  | 0 => firstC M st
  | n + 1 => nextC p M (itC p M st n)
def totN (p : Int) (M : Mach) (st : Int) (n : Nat) : Int := totC p M (itC p M st n)
theorem itC_ok {p : Int} (hP : IsP p) (M : Mach) (st : Int) : ∀ n, CsOk p M (itC p M st n)
  | 0 => firstC_ok hP M st
  | n + 1 => nextC_ok hP M _
end Tw
namespace Tw
open PySem PySem.Spec PyProof.Rows L2 TL
/-! ### comprehensions that hold a comprehension -/
section
variable {P : Program} {w : World} {K : PySem.W.Frag} {mg : Str → Option Value} {base : Heap} {j k : Nat} {X : Cx} {NS WS NS' WS' : List (Str × Nat)} {G G' : List Str} {N : List Str} {scD scope : Scope} {pos spos : Pos}
end
end Tw
namespace Tw
open PySem PySem.Spec PyProof.Rows L2 TL
/-! ### C.m(k = v), a classmethod -/
section
variable {P : Program} {w : World} {K : PySem.W.Frag} {mg : Str → Option Value} {base : Heap} {j k : Nat} {X : Cx} {NS WS : List (Str × Nat)} {G : List Str} {apos pos : Pos} {o : Expr} {kws : List Keyword} {tk : TA} {ks : List Str} {sp : Sp} {ta : TE} {C : Addr} {m : Str}
structure CMfK (P : Program) (w : World) (K : PySem.W.Frag) (mg : Str → Option Value) (base : Heap) (k : Nat) (C : Addr) (m : Str) (ks : List Str) (gV : List V → List V → List V) (sp : Sp) : Prop where
  ex : ∃ mc q g fd ps, ∃ gg : List Value → List Value → List Value, ClX.CRead K C mc ∧ ClX.CMet K C mc m q g ∧ KBn K fd ps 1 ks gg gV ∧ FnOk P w K mg base CX0 k g fd ps sp
end
/-! machines as data for == -/
end Tw
namespace Tw
open PySem PySem.Spec PyProof.Rows L2
/-! ### own == with any value on the right; what is left of a list or tuple behind a place -/
section
variable {X : Cx} {n : Nat} {C : Addr}
end
/-! ### a machine with one row changed -/
theorem StsAt.take {H : Hp} {xs : List V} {M : List (Int × List Int)} (h : StsAt H xs M) (n : Nat) : StsAt H (xs.take n) (M.take n) := by
  refine ⟨by rw [List.length_take, List.length_take, h.1], fun i v s h1 h2 => ?_⟩
  rw [List.getElem?_take] at h1 h2
  by_cases c : i < n
  · rw [if_pos c] at h1 h2
    exact h.2 i v s h1 h2
  · rw [if_neg c] at h1
    cases h1
theorem StsAt.drop {H : Hp} {xs : List V} {M : List (Int × List Int)} (h : StsAt H xs M) (n : Nat) : StsAt H (xs.drop n) (M.drop n) := by
  refine ⟨by rw [List.length_drop, List.length_drop, h.1], fun i v s h1 h2 => ?_⟩
  rw [List.getElem?_drop] at h1 h2
  exact h.2 _ v s h1 h2
theorem StsAt.one {H : Hp} {x : V} {s : Int × List Int} (h : StAt H x s) : StsAt H [x] [s] := by
  refine ⟨rfl, fun i v z h1 h2 => ?_⟩
  match i, h1, h2 with
  | 0, h1, h2 =>
    obtain rfl := Option.some.inj h1
    obtain rfl := Option.some.inj h2
    exact h
  | i + 1, h1, h2 => exact absurd h1 (by simp)
theorem OkM.swap {p n : Int} {M : List (Int × List Int)} {s : Int × List Int} (h : OkM p n M) (k : Nat) (h1 : 0 ≤ s.1 ∧ s.1 < p) (h2 : (s.2.length : Int) = p) (h3 : ∀ g ∈ s.2, 0 ≤ g ∧ g < n) : OkM p n (M.take k ++ [s] ++ M.drop (k + 1)) := by
  have key : ∀ z ∈ M.take k ++ [s] ++ M.drop (k + 1), z ∈ M ∨ z = s := fun z hz => by
    rcases List.mem_append.mp hz with hz | hz
    · rcases List.mem_append.mp hz with hz | hz
      · exact .inl (List.mem_of_mem_take hz)
      · exact .inr (List.mem_singleton.mp hz)
    · exact .inl (List.mem_of_mem_drop hz)
  refine ⟨fun z hz => ?_, fun z hz => ?_, fun z hz => ?_⟩ <;> rcases key z hz with hz | rfl
  · exact h.turn z hz
  · exact h1
  · exact h.many z hz
  · exact h2
  · exact h.goal z hz
  · exact h3
end Tw
namespace Tw
open PySem PySem.Spec PyProof.Rows L2
/-! ### enumerate(tuple) -/
open AutoSeq1 (wpAny_loadPart') in
theorem meets_enumT (l : Addr) (items : Array Value) (n : Nat) (dct : Option Addr) (sl : Array (Option Value)) :
    Meets (Builtin.«enumerate.__new__» ⟨[.type "enumerate", .ref l], []⟩) (fun _ R s => s.heap.get? l = some { cls := .type "tuple", dict := dct, data := .seq items n, slots := sl } ∧
      R (.ok (.ret (.ref (s.heap.push { cls := .type "tuple_iterator", data := .fields #[.ref l, .int 0 0] }).objs.size)))
        { s with heap := (s.heap.push { cls := .type "tuple_iterator", data := .fields #[.ref l, .int 0 0] }).push { cls := .type "enumerate", data := .fields #[.none, .bool false, .ref s.heap.objs.size, rawInt 0, .none, .none] } }) :=
  .of_wp fun prog w A R s h => by
    obtain ⟨hp, g, d, tk, os⟩ := s; obtain ⟨hl, h⟩ := h
    have hsub := sub_enumerate
    have hL : Heap.IsTuple (Shared.heap ⟨hp, g, d, tk, os⟩) l items := ⟨_, hl, rfl, n, rfl⟩
    wp_walk using wpAny_loadPart' hl
    refine wpAny_stack_any fun st => wpAny_pure ?_
    split
    · rename_i c _ _ _ _ _
      cases (c == Value.type "enumerate")
      · wp_walk using wpAny_loadPart' hl, wpAny_pyIter_tuple hL
        exact ⟨_, rfl, h⟩
      · wp_walk using wpAny_loadPart' hl, wpAny_pyIter_tuple hL
        exact ⟨_, rfl, h⟩
    · wp_walk using wpAny_loadPart' hl, wpAny_pyIter_tuple hL
      exact ⟨_, rfl, h⟩
theorem call_enumT {prog : Program} {w : World} {A : Around} {E : Value → Shared → Prop} {s : Shared} {l : Addr} {items : Array Value} {Q : Value → Shared → Prop} (hL : s.heap.IsTuple l items)
    (h : ∀ h', IsEnum h' (s.heap.objs.size + 1) s.heap.objs.size 0 .none → h'.IsTupleIter s.heap.objs.size l 0 → h'.objs.size = s.heap.objs.size + 2 →
      (∀ b o, s.heap.get? b = some o → h'.get? b = some o) → Q (.ref (s.heap.objs.size + 1)) { s with heap := h' }) :
    wpAny (model prog w) A (call (.type "enumerate") [.ref l]) Q E s := by
  obtain ⟨⟨c, dct, dt, sl⟩, hl, hc, n, hd⟩ := hL
  replace hc : c = .type "tuple" := hc
  replace hd : dt = .seq items n := hd
  subst hc hd
  refine callType_new F.called_enumerate (by decide) (F.typeCall_enumerate_1 _) (F.newCall_enumerate_1 _) (fun obj => F.args_object_init_2 obj _) F.entry_enumerate_new
    (meets_enumT l items n dct sl) ⟨hl, ?_⟩
  have hz : (s.heap.push { cls := .type "tuple_iterator", data := .fields #[.ref l, .int 0 0] }).objs.size = s.heap.objs.size + 1 := Heap.size_push ..
  show _ ∧ _
  rw [hz]
  have he : IsEnum ((s.heap.push { cls := .type "tuple_iterator", data := .fields #[.ref l, .int 0 0] }).push
      { cls := .type "enumerate", data := .fields #[.none, .bool false, .ref s.heap.objs.size, rawInt 0, .none, .none] }) (s.heap.objs.size + 1) s.heap.objs.size 0 .none := by
    have := Heap.get?_push_size (s.heap.push { cls := .type "tuple_iterator", data := .fields #[.ref l, .int 0 0] })
      (o := { cls := .type "enumerate", data := .fields #[.none, .bool false, .ref s.heap.objs.size, rawInt 0, .none, .none] }) rfl
    rw [hz] at this; exact this
  refine ⟨⟨_, he, rfl⟩, h _ he ⟨_, Heap.get?_push_of_some _ (Heap.get?_push_size _ rfl), rfl, rfl⟩ (by rw [Heap.size_push, hz]) fun b o x => Heap.get?_push_of_some _ (Heap.get?_push_of_some _ x)⟩
/-- the tuple at a as it stands at each turn, each item in a new pair -/
def IteT (K : PySem.W.Frag) (a : Addr) : It :=
  ⟨fun i H => ∃ (xs : List V) (x : V), SqT K H a xs ∧ xs[i]? = some x, fun i H v H' => ∃ T x, v = .ref T ∧ H T = none ∧ H' = upd H T (.tup [.int (i : Nat), x]) ∧ ∀ xs, SqT K H a xs → xs[i]? = some x, fun i H => ∃ xs : List V, SqT K H a xs ∧ xs.length ≤ i⟩
theorem not_same {h : Heap} {a b : Addr} {oa : Obj} {items : Array Value} (e : h.get? b = some oa) (n : oa.cls ≠ .type "tuple") (t : h.IsTuple a items) : b ≠ a := fun z => by
  obtain ⟨o, ho, hc, _⟩ := t
  rw [z, ho] at e
  exact n (Option.some.inj e ▸ hc)
theorem draws_end {prog : Program} {w : World} {A : Around} (hh : A.handled = none) (it t : Addr) (items : Array Value) (i : Nat) (hi : items.size ≤ i) :
    Draws prog w A it [it, t] i (fun _ _ => False) (fun j h => j = i ∧ h.IsTupleIter it t i ∧ h.IsTuple t items) where
  live := fun _ _ st => let ⟨_, ⟨o, ho, _⟩, _⟩ := st; ⟨o, ho⟩
  frame := fun _ _ _ st hk => ⟨st.1, st.2.1.at fun o e => hk it (by simp) o e, st.2.2.at fun o e => hk t (by simp) o e⟩
  item := fun j s Q E hj st hQ => absurd st.1 (Nat.ne_of_lt hj)
  done := fun s Q E st hE => wpAny_nextOf_tuple_end hh st.2.1 st.2.2 (Array.getElem?_eq_none_iff.mpr hi) hE
theorem turn_enumT {P : Program} {w : World} {K : PySem.W.Frag} {elts : List Expr} {kk : Nat} {tpos : Pos} (a e it : Addr) :
    Turn P w K (.Tuple elts kk tpos) (IteT K a) [e, it] e (fun i h => (∃ old, IsEnum h e it ((i : Nat) : Int) old) ∧ h.IsTupleIter it a i ∧ e ≠ it) where
  mem := by simp
  obj := fun i h st b hb => by
    obtain ⟨⟨old, he⟩, ⟨o, ho, hc, hd⟩, _⟩ := st
    have e' : b = e ∨ b = it := by simpa using hb
    rcases e' with z | z
    · rw [z]; exact ⟨_, he, fun v q => nomatch q⟩
    · rw [z]; exact ⟨o, ho, fun v q => by rw [hd] at q; cases q⟩
  keep := fun i h h' st k => let ⟨⟨old, he⟩, hi, hne⟩ := st; ⟨⟨old, k e (by simp) _ he⟩, hi.at fun o q => k it (by simp) o q, hne⟩
  item := by
    intro X hP hw hK hc i pins s σ H E I hf st hg
    subst hP hw hK
    obtain ⟨⟨old, he⟩, hit, hne⟩ := st
    obtain ⟨xs, x, hq, hx⟩ := hg
    obtain ⟨its, rv, p, hz⟩ := I.tuple hq
    obtain ⟨u, hu, ru⟩ := rv.get hx
    have hel : e < s.heap.objs.size := Heap.lt_size he
    have hil : it < s.heap.objs.size := by obtain ⟨_, q, _⟩ := hit; exact Heap.lt_size q
    have pT : s.heap.IsTuple a its.toArray := p
    have hea : e ≠ a := not_same he (by simp) pT
    have hai : it ≠ a := by
      obtain ⟨o, ho, hc2, _⟩ := hit
      exact not_same ho (by rw [hc2]; simp) pT
    have hh : X.A.in1.handled = none := I.ok.hd hc
    have hui : its.toArray[i]? = some u := by simpa using hu
    refine wpAny_pyNext_enum_itemD (Draws.tuple (A := X.A.in1) hh it a (Ne.symm hai) its.toArray) he ⟨hit, pT⟩ (Array.getElem?_eq_some_iff.mp hui).1 hne (by simp [hne, hea]) fun y h' tk hy ho hst' hT hsz hk => ?_
    obtain rfl : u = y := Option.some.inj (hui.symm.trans hy)
    refine ⟨_, rfl, wpAny_letOwnedTupleGo_enum (s := { s with heap := h', toks := tk + 1 }) ho fun h'' he' sb => ?_⟩
    have hT2 : h''.get? s.heap.objs.size = some { cls := .type "tuple", data := .seq #[.int i tk, u] } := (sb.2 _ (Nat.ne_of_gt hel)).trans hT
    have new : ObjOk X.prog X.w (upd H s.heap.objs.size (.tup [.int (i : Nat), x])) h'' s.heap.objs.size (.tup [.int (i : Nat), x]) :=
      ⟨by show 2 ≤ sizeLine; decide, [.int i tk, u], .cons ⟨_, rfl⟩ (.cons ru .nil), ⟨_, hT2, rfl, _, rfl⟩⟩
    have I1 : Inv X pins σ (upd H s.heap.objs.size (.tup [.int (i : Nat), x])) { s with heap := h'', toks := tk + 1 } :=
      I.turnedNew (ch := [e, it]) (fun b ob hb q => (sb.2 b (fun z => hb (by simp [z]))).trans (hk b ob (fun z => hb (by simp [z])) (fun z => hb (by simp [z])) q)) hf (Nat.le_refl _) new
    refine ⟨.ref s.heap.objs.size, _, I1, rfl, ⟨_, x, rfl, I.hok.fresh (Nat.le_refl _), rfl, fun ys hy => by rw [I.tuple_inj hy hq]; exact hx⟩, ⟨⟨u, ?_⟩, hst'.1.at fun o q => (sb.2 it (Ne.symm hne)).trans q, hne⟩, fun b hb => ?_⟩
    · have e1 : ((i + 1 : Nat) : Int) = (i : Int) + 1 := by omega
      rw [e1]; exact he'
    · have hb' : b < s.heap.objs.size := by
        have e' : b = e ∨ b = it := by simpa using hb
        rcases e' with z | z
        · rw [z]; exact hel
        · rw [z]; exact hil
      rw [upd_ne (Nat.ne_of_lt hb')]
      exact (hf b hb).1
  done := by
    intro X hP hw hK hc i pins s σ H E I hf st hg
    subst hP hw hK
    obtain ⟨⟨old, he⟩, hit, hne⟩ := st
    obtain ⟨xs, hq, hx⟩ := hg
    obtain ⟨its, rv, p, hz⟩ := I.tuple hq
    obtain ⟨f0, f1, f2, f3, f4, f5⟩ := hf it (by simp)
    have hl := rv.length
    have hh : X.A.in1.handled = none := I.ok.hd hc
    have pT : s.heap.IsTuple a its.toArray := p
    exact wpAny_pyNext_enum_endD (draws_end (A := X.A.in1) hh it a its.toArray i (by simp; omega)) he ⟨rfl, hit, pT⟩ fun h' eb => ⟨rfl, I.turned (t' := s.toks) (fun b o hb q => eb b o hb q) f0 f1 f3 f4 f5⟩
  self := fun A i s Q E st h => let ⟨⟨_, he⟩, _⟩ := st; wpAny_pyIter_enum he h
def iEnumT (K : PySem.W.Frag) (ta : TA) : TI := fun σ H R => ta σ H fun vs H1 => ∃ a xs, vs = [.ref a] ∧ SqT K H1 a xs ∧ R (IteT K a) H1
theorem pi_enumT {X : Cx} {e : Expr} {ta : TA} {p pos tpos : Pos} {elts : List Expr} {kk : Nat} (hg : Gl X "enumerate") (hm : X.mg "enumerate" = none) (ha : PA X [e] ta) (hs : starEach [e] X.env = [(false, eval e X.env)] := by rfl) :
    PI X (.Tuple elts kk tpos) (.Call (.Name "enumerate" p) [e] [] pos) (iEnumT X.K ta) := by
  refine ⟨fun pins s σ H R I h => ?_⟩
  refine Call_ (ld_blt I hg hm boot_enumerate (PyProof.Rows.callWith_type1 (thn (ha.run pos pins s σ H _ I h) fun us s1 ⟨vs, H1, I1, r1, q1⟩ => ?_) hs rfl))
  obtain ⟨a, xs, ex, hq, q⟩ := q1
  subst ex
  cases r1 with
  | cons r rr =>
    cases rr
    cases r
    obtain ⟨its, rv, p', hz⟩ := I1.tuple hq
    refine call_enumT p' fun h' he hit hsz hk => wpAny_pyIter_enum he ?_
    have I2 : Inv X pins σ H1 { s1 with heap := h' } := I1.kept (t' := s1.toks) hk
    refine ⟨s1.heap.objs.size + 1, [s1.heap.objs.size + 1, s1.heap.objs.size], _, _, H1, rfl, I2, turn_enumT a (s1.heap.objs.size + 1) s1.heap.objs.size, ⟨⟨.none, he⟩, hit, Nat.succ_ne_self _⟩, fun b hb => ?_, q⟩
    have e' : b = s1.heap.objs.size + 1 ∨ b = s1.heap.objs.size := by simpa using hb
    have hle : s1.heap.objs.size ≤ b := by
      rcases e' with z | z
      · rw [z]; exact Nat.le_add_right _ _
      · rw [z]; exact Nat.le_refl _
    exact I1.fpOk hle (I1.hok.fresh hle)
theorem n_enumT {P : Program} {w : World} {K : PySem.W.Frag} {mg : Str → Option Value} {base : Heap} {j : Nat} {X : Cx} {NS WS : List (Str × Nat)} {G : List Str} {p pos tpos : Pos} {e : Expr} {t : TA} {elts : List Expr} {kk : Nat} (h : Nm P w K mg base j X NS WS G) (hm : mg "enumerate" = none) (hg : ("enumerate" : Str) ∈ G) (ha : PA X [e] t) (hs : starEach [e] X.env = [(false, eval e X.env)] := by rfl) :
    PI X (.Tuple elts kk tpos) (.Call (.Name "enumerate" p) [e] [] pos) (iEnumT K t) := by
  have q := h.eK
  subst q
  exact pi_enumT (h.gl _ hg).1 (by rw [h.em]; exact hm) ha hs
theorem st_get {H : Hp} {xs : List V} {M : List (Int × List Int)} {s : Int} (h : StsAt H xs M) (s0 : 0 ≤ s) (s1 : s < (M.length : Int)) : ∃ b g, atI xs s = some (.ref b) ∧ H b = some (.tup [.int (M.getD s.toNat (0, [])).1, .ref g]) ∧ H g = some (.tup ((M.getD s.toNat (0, [])).2.map V.int)) ∧ M.getD s.toNat (0, []) ∈ M := by
  have hm : s.toNat < M.length := by omega
  have hx : s.toNat < xs.length := by rw [h.1]; exact hm
  have e1 : xs[s.toNat]? = some xs[s.toNat] := List.getElem?_eq_getElem hx
  have e2 : M[s.toNat]? = some M[s.toNat] := List.getElem?_eq_getElem hm
  obtain ⟨a, g, ev, h1, h2⟩ := h.2 _ _ _ e1 e2
  have eM : M.getD s.toNat (0, []) = M[s.toNat] := by rw [List.getD_eq_getElem?_getD, e2]; rfl
  refine ⟨a, g, at_of (j := s.toNat) (by omega) (by rw [e1, ev]), ?_, ?_, ?_⟩
  · rw [eM]; exact h1
  · rw [eM]; exact h2
  · rw [eM]; exact List.getElem_mem hm
theorem sl_anyZ {K : PySem.W.Frag} {H : Hp} {a : Addr} {xs : List V} {n : Nat} {z : Int} {Q : V → Hp → Prop} (hz : z = (n : Int)) (h : H a = some (.tup xs)) (k : ∀ r H', Same H H' → H' r = some (.tup (xs.take n)) → Q (.ref r) H') : rSlA K (.ref a) none (some z) H Q := by
  subst hz; exact sl_any h k
theorem sl_listZ {K : PySem.W.Frag} {H : Hp} {a : Addr} {xs : List V} {n : Nat} {z : Int} {Q : V → Hp → Prop} (hz : z = (n : Int)) (h : H a = some (.lst xs)) (k : ∀ r H', Same H H' → H' r = some (.lst (xs.take n)) → Q (.ref r) H') : rSlL K (.ref a) none (some z) H Q := by
  subst hz; exact sl_list_any h k
end Tw
namespace Tw
open PySem PySem.Spec PyProof.Rows L2
/-! ### repr(x) by an own __repr__; xs.reverse(), xs.clear() -/
section
variable {X : Cx} {n : Nat} {C : Addr}
structure Or' (P : Program) (w : World) (K : PySem.W.Frag) (mg : Str → Option Value) (base : Heap) (k : Nat) (C : Addr) (ps : List Str) (sp : Sp) : Prop where
  ex : ∃ f fd, PySem.W.findIn K (.ref C) "__repr__" = some (some (.ref f)) ∧ PySem.W.isFn K (.ref f) = true ∧ Binds K fd ps [] ∧ FnOk P w K mg base CX0 k f fd ps sp
end
end Tw
namespace Tw
open PySem PySem.Spec PyProof.Rows L2
/-! ### super().__init__(x) in an own exception's __init__ -/
/-- a method of the class at C whose body reads __class__, as it stands behind the top -/
structure FunC (P : Program) (K : PySem.W.Frag) (mg : Str → Option Value) (x qual : Str) (st : Stmt) (f C cc cda : Addr) (fd : FuncData) (i : String) : Prop where
  ex : ∃ (oc : Value) (od : Option Addr) (kV doc pm : Value) (an : Option Addr) (ct : Value) (osl : Array (Option Value)),
    fd = PySem.W.fnX x qual (defArgs st) (defBody st) (defScope st) [("__class__", cc)] .none kV doc pm an (.ref cda) ct ∧ K.lookup f = some ⟨oc, od, .func fd, osl⟩
  cd : PySem.W.codeIn K (.ref cda) qual = true
  cell : ∃ (cl : Value) (cld : Option Addr) (csl : Array (Option Value)), K.lookup cc = some ⟨cl, cld, .cell (some (.ref C)), csl⟩
  co : ∃ (ccl : Value) (cdd : Option Addr) (vs : Array Value) (ccs : Array (Option Value)) (file : Str) (tf : Tok), K.lookup cda = some ⟨ccl, cdd, .fields vs, ccs⟩ ∧ vs[2]? = some (.str file tf) ∧ ((P.main.file : Str) == file) = true
  sup : PySem.W.ks_superIn K C C "__init__" = some (some (.builtin i))
  opq : PySem.W.nsIn K cStatics "thirdparty.any" = some none
  mgs : mg "super" = none
  top : (P.main.scope.names.lookup ("super" : Str)).isSome = false
  par : ∃ ar, ((defArgs st).posonlyargs ++ (defArgs st).args).head? = some ar ∧ ar.arg = ("self" : Str)
  scS : (defScope st).names.lookup ("super" : Str) = some .globalImplicit
  scC : (defScope st).names.lookup ("__class__" : Str) = some .free
  scL : (defScope st).names.lookup ("self" : Str) = some .local
abbrev nfOf (x qual : Str) (st : Stmt) (cc cda : Addr) : NdefX.NF := ⟨x, qual, defArgs st, defBody st, defScope st, [("__class__", cc)], cda⟩
section
variable {CX : CXT} {P : Program} {w : World} {K : PySem.W.Frag} {mg : Str → Option Value} {base : Heap} {N : List Str} {x qual : Str} {st : Stmt} {f C cc cda a : Addr} {fd : FuncData} {A : Around} {outer : List Env} {s0 s : Shared} {H0 H : Hp} {E : XK} {σ : L2.St} {e : Expr} {es : List Expr} {ta : TA} {p0 p1 p2 p3 p4 : Pos} {R : Flow → Shared → Prop}
theorem clsIn_oex (T : OexC K C) : ∃ cd bm, PySem.W.clsIn K C = some cd ∧ cd.mro = .ref C :: bm ∧ PySem.HandSPX.refsVE bm = true := by
  obtain ⟨nm, q, N, bs, bm, sn, sub, ab, col, dd, k0, k1, k2, k3, k5, hC, hbm⟩ := T.cls
  refine ⟨{ name := nm, bases := bs, mro := .ref C :: bm, ns := N, qualname := q, hasDict := true, slotNames := sn, subclasses := sub, abstract := ab, collection := col, hasDel := false }, bm, ?_, rfl, hbm⟩
  unfold PySem.W.clsIn; rw [hC] <;> rfl
theorem mroIn_oex (T : OexC K C) {b : Value} (h : b = .ref C ∨ ∃ X : String, b = .type X ∧ PySem.HandSPX.veTail.contains (.type X) = true) : PySem.W.mroIn K C b = some true := by
  obtain ⟨cd, bm, h1, h2, h3⟩ := clsIn_oex T
  unfold PySem.W.mroIn
  rw [h1, Option.bind_some, h2, if_neg (show ¬ (List.isEmpty (Value.ref C :: bm) = true) from Bool.false_ne_true)]
  rcases h with rfl | ⟨X, rfl, h⟩
  · simp
  · rw [List.contains_cons, PySem.HandSPX.refsVE_contains X bm h3, h, Bool.or_true]
theorem callWith_mw {M : Model} {A : Around} {E : Value → Shared → Prop} {s : Shared} {pos : Pos} {env : Env} {e : Expr} {rest : List Expr} {u x : Addr} {i : String} {Q : Value → Shared → Prop}
    (h : wpAny M A (spliced (backTo pos (starEach (e :: rest) env))) (fun vs s₁ => PySem.W.KxsAt i u x s₁.heap ∧ wpAny M A (call (.ref u) vs) Q E s₁) E s)
    (he : starEach (e :: rest) env = (false, eval e env) :: starEach rest env) (hplain : (backTo pos (starEach rest env)).any (·.1) = false) :
    wpAny M A (callWith pos (.ref u) [] (backTo pos (starEach (e :: rest) env)) []) Q E s := by
  rw [he] at h ⊢
  refine PySem.W.kxs_callWith (i := i) (x := x) (by show (false || (backTo pos (starEach rest env)).any (·.1)) = false; rw [hplain]; rfl) ?_
  exact PySem.Calls.evalArgs_plain h
theorem sup_stmt (FC : FunC P K mg x qual st f C cc cda fd "ValueError.__init__") (T : OexC K C) (hk : (defScope st).kind = .function) (hN : N[0]? = some ("self" : Str))
    (I : Inv (NdefX.ncx CX P w K mg base N (nfOf x qual st cc cda) f A outer s0 H0 E) [] σ H s) (hσ : σ[0]? = some (some (.ref a))) (hx : H a = some (exo a C none)) (ha : PA (NdefX.ncx CX P w K mg base N (nfOf x qual st cc cda) f A outer s0 H0 E) (e :: es) ta)
    (h : ta σ H fun vs H1 => vs.length ≤ 1000 ∧ H1 a = some (exo a C none) ∧ ∀ s', Inv (NdefX.ncx CX P w K mg base N (nfOf x qual st cc cda) f A outer s0 H0 E) [] σ H1 s' → R .next s')
    (hi : interactive (NdefX.ncx CX P w K mg base N (nfOf x qual st cc cda) f A outer s0 H0 E).env = false := by rfl)
    (hs : swapsWith (.Call (.Attribute (.Call (.Name "super" p0) [] [] p1) "__init__" p2) (e :: es) [] p3) none p4.line (NdefX.ncx CX P w K mg base N (nfOf x qual st cc cda) f A outer s0 H0 E).env = pure false := by rfl)
    {pl : Sem Bool} (hc : eval (.Call (.Attribute (.Call (.Name "super" p0) [] [] p1) "__init__" p2) (e :: es) [] p3) (NdefX.ncx CX P w K mg base N (nfOf x qual st cc cda) f A outer s0 H0 E).env = (do
      let ov ← attributeBase (.Call (.Name "super" p0) [] [] p1) "__init__" (NdefX.ncx CX P w K mg base N (nfOf x qual st cc cda) f A outer s0 H0 E).env (eval (.Call (.Name "super" p0) [] [] p1) (NdefX.ncx CX P w K mg base N (nfOf x qual st cc cda) f A outer s0 H0 E).env)
      standAt p2.atName
      let (fz, first) ← holding [ov] (getMethod ov "__init__" pl)
      callWith p3 fz first (backTo p3 (starEach (e :: es) (NdefX.ncx CX P w K mg base N (nfOf x qual st cc cda) f A outer s0 H0 E).env)) []) := by rfl)
    (he : starEach (e :: es) (NdefX.ncx CX P w K mg base N (nfOf x qual st cc cda) f A outer s0 H0 E).env = (false, eval e (NdefX.ncx CX P w K mg base N (nfOf x qual st cc cda) f A outer s0 H0 E).env) :: starEach es (NdefX.ncx CX P w K mg base N (nfOf x qual st cc cda) f A outer s0 H0 E).env := by rfl)
    (hpl : (backTo p3 (starEach es (NdefX.ncx CX P w K mg base N (nfOf x qual st cc cda) f A outer s0 H0 E).env)).any (·.1) = false := by rfl) :
    _root_.PySem.wpAt (model P w) (NdefX.ncx CX P w K mg base N (nfOf x qual st cc cda) f A outer s0 H0 E).A (.func (defBody st) (NdefX.ncx CX P w K mg base N (nfOf x qual st cc cda) f A outer s0 H0 E).env)
      (exec (.Expr (.Call (.Attribute (.Call (.Name "super" p0) [] [] p1) "__init__" p2) (e :: es) [] p3) p4) (NdefX.ncx CX P w K mg base N (nfOf x qual st cc cda) f A outer s0 H0 E).env) R (NdefX.ncx CX P w K mg base N (nfOf x qual st cc cda) f A outer s0 H0 E).xe s := by
  obtain ⟨oc, od, kV, doc, pm, an, ct, osl, rfl, lk⟩ := FC.ex
  obtain ⟨cl, cld, csl, hcell⟩ := FC.cell
  obtain ⟨ccl, cdd, vs, ccs, file, tf, hco, hvs, hfile⟩ := FC.co
  obtain ⟨ar, har, ear⟩ := FC.par
  obtain ⟨nm, q, N', bs, bm, sn, sub, ab, col, dd, k0, k1, k2, k3, k5, hC, hbm⟩ := id T.cls
  obtain ⟨cd, bm', hcl, hmro, hbm'⟩ := clsIn_oex T
  have KX : K.In s.heap := I.kIn
  obtain ⟨t1, ho⟩ := exo_at I.hok hx
  obtain ⟨m, hns, hloc⟩ := I.loc
  obtain ⟨u, ru, hlook⟩ := hloc 0 "self" (.ref a) hN hσ (.inl FC.scL)
  obtain rfl : u = Value.ref a := ru
  have hm : m "self" = some (.ref a) := by
    rcases hlook with ⟨_, z⟩ | ⟨z, _⟩
    · exact z
    · rcases z with z | z <;> exact absurd (FC.scL.symm.trans z) (by simp)
  obtain ⟨mb, hb1, hb2⟩ := I.ok.mod.blt
  refine ks_wpAt_Expr_any (ks_wpAt_MethodCall (pl := pl) ?_ hc) hi hs
  refine ks_wpAt_super_base FC.scS FC.scC (by decide) rfl (KX _ _ lk) rfl har rfl (KX _ _ hco) rfl hvs hfile FC.top ?_
  refine PySem.W.ks_loadName_global hk FC.scS (PySem.Calls.loadGlobal_builtin (env := (NdefX.ncx CX P w K mg base N (nfOf x qual st cc cda) f A outer s0 H0 E).env) (I.ok.mod.glob.keeps I.bk) FC.mgs (hb1.keeps I.bk) ((hb2 _ (by decide)).trans (by decide +kernel : bootBuiltins "super" = some (.type "super"))) ⟨rfl, ?_⟩)
  refine wpAny_loadName_free hk FC.scC (c := cc) rfl ⟨_, KX _ _ hcell, rfl⟩ ?_
  refine wpAny_loadName_local hk (by rw [ear]; exact FC.scL) hns (by rw [ear]; exact hm) ?_
  obtain ⟨hp, g, d, t, os⟩ := s
  refine ks_wpAny_isType_cls (KX _ _ hC) rfl ⟨rfl, ?_⟩
  refine ks_wpAny_call_super (KX _ _ hC) rfl ho rfl (fun c z => nomatch z) (PySem.W.looks_mroIn KX (mroIn_oex T (.inl rfl))) (fun h' so k => ?_)
  have I1 : Inv (NdefX.ncx CX P w K mg base N (nfOf x qual st cc cda) f A outer s0 H0 E) [] σ H ⟨h', g, d, t, os⟩ := I.kept (t' := t) k
  have KX1 : K.In h' := I1.kIn
  have I' : PySem.W.InstAt h' a { cls := .ref C, dict := none, data := .fields #[.ref t1, .none, .none, .none, .bool false, .none] } C none := ⟨k _ _ ho, rfl, rfl, trivial⟩
  have hsup : PySem.W.alongIn K "__init__" ((cd.mro.dropWhile (· != .ref C)).drop 1) = some (some (.builtin "ValueError.__init__")) := by
    have z := FC.sup
    unfold PySem.W.ks_superIn at z
    rw [hcl] at z
    exact z
  refine PySem.W.kxs_getMethod PySem.W.kxs_ValueError so (PySem.W.looks_opaque KX1 FC.opq) (l₀ := cd.mro) (fun A Q E s k q => wpAny_bind ((PySem.W.looks_clsIn KX1 hcl) A _ E s k (wpAny_pure q))) rfl KX1 hsup
    (I'.type.andThen (PySem.W.looks_subIn KX1 (show PySem.W.subIn K (.ref C) (.type "ValueError") = some true from mroIn_oex T (.inr ⟨_, rfl, by decide +kernel⟩)))) (PySem.W.ks_ne KX1 I' hcl) (by decide) ?_
  have I2 : Inv (NdefX.ncx CX P w K mg base N (nfOf x qual st cc cda) f A outer s0 H0 E) [(h'.objs.size, PySem.W.kxs_mw "ValueError.__init__" a)] σ H ⟨h'.push (PySem.W.kxs_mw "ValueError.__init__" a), g, d, t + 1, os⟩ :=
    ClX.pin_new I1 (fun _ _ z => Heap.get?_push_of_some _ z) (Nat.le_refl _) (Heap.get?_push_size h' rfl) (fun v z => nomatch z)
  show wpAny _ _ (callWith p3 (.ref h'.objs.size) [] (backTo p3 (starEach (e :: es) (NdefX.ncx CX P w K mg base N (nfOf x qual st cc cda) f A outer s0 H0 E).env)) []) _ _ _
  refine callWith_mw (i := "ValueError.__init__") (x := a) (thn (ha.run p3 _ _ σ H _ I2 h) fun us s1 ⟨vs', H1, I3, r1, hz, hx1, q⟩ => ⟨ClX.pin_at I3, ?_⟩) he hpl
  obtain ⟨t3, ho3⟩ := exo_at I3.hok hx1
  have hu := ClX.pin_at I3
  have hlen : us.length ≤ sizeLine := by
    rw [← Paired.length r1, sizeLine_eq]
    omega
  have KX3 : K.In s1.heap := I3.kIn
  obtain ⟨hp1, g1, d1, tk1, os1⟩ := s1
  refine wpAny_call (codeAny_of_tree ?_)
  show wpAny _ _ (callAny (.ref _) ⟨us, []⟩) _ _ _
  simp only [callAny]
  refine wpAny_bind (wpAny_load hu ?_)
  simp only [PySem.W.kxs_mw, show (Value.type "method-wrapper" == Value.type "method" || Value.type "method-wrapper" == Value.type "builtin_function_or_method" || Value.type "method-wrapper" == Value.type "method-wrapper") = true by decide, if_true]
  refine PySem.W.KFB.if_so (by decide) ?_
  refine wpAny_bind (PySem.W.check_bound_init F.excBase_ValueError.toExcCallFacts (KX3 _ _ hC) ho3 rfl ?_)
  refine wpAny_bind (wpAny_pure (wpAny_pure ?_))
  refine ⟨plainId_quiet F.excBase_ValueError.init.plain _, codeAny_builtin F.excBase_ValueError.initEntry ?_⟩
  refine PySem.W.exc_init_tree (cls := .ref C) (t0 := t3) (dv := none) (c2 := .none) (c3 := .none) (b4 := .bool false) ho3 hlen fun h2 k2 e2 t2 => ?_
  have J := (ClX.unpin I3).write (t' := tk1) (x := a) (e := a) (o := exo a C none) (by rw [hx1]; exact True.intro) (.inl rfl) k2 ⟨_, e2⟩ (exo_ok e2)
  have eu : upd H1 a (exo a C none) = H1 := by
    funext b
    by_cases hb : b = a
    · rw [hb, upd_same, hx1]
    · rw [upd_ne hb]
  rw [eu] at J
  exact q _ J
end
end Tw
namespace Tw
open PySem PySem.Spec PyProof.Rows L2
/-! ### the promise of an __init__ that begins with super().__init__(..) -/
theorem nm_ncx {CX : CXT} {P : Program} {w : World} {K : PySem.W.Frag} {mg : Str → Option Value} {base : Heap} {j : Nat} {N : List Str} {NS : List (Str × Nat)} {G : List Str} {F : NdefX.NF} {f : Addr} {A : Around} {outer : List Env} {s : Shared} {H : Hp} {E : XK}
    (h : nmB N NS G F.scope = true) (hc : ∀ y ∈ F.scope.names, y.2 ≠ .cell) (hr : Room j (A.deeper (NdefX.envF F f s.heap.objs.size))) : Nm P w K mg base j (NdefX.ncx CX P w K mg base N F f A outer s H E) NS NS G := by
  unfold nmB at h
  simp only [Bool.and_eq_true, Bool.or_eq_true, Bool.not_eq_true', decide_eq_true_eq, List.all_eq_true] at h
  obtain ⟨⟨h1, h2⟩, h3⟩ := h
  have loc : ∀ x i, (x, i) ∈ NS → F.scope.names.lookup x = some .local := fun x i hm => by
    obtain ⟨⟨⟨a, b⟩, c⟩, d⟩ := h2 (x, i) hm
    rcases b with b | b
    · exact b
    · exact absurd rfl (hc _ (PySem.mem_of_lookup b))
  refine ⟨rfl, rfl, rfl, rfl, rfl, hr, rfl, h1, fun x i hm => ?_, fun x i hm => ?_, fun x hm => ?_⟩
  · obtain ⟨⟨⟨a, b⟩, c⟩, d⟩ := h2 (x, i) hm
    exact ⟨a, .inl (loc x i hm), c, d⟩
  · obtain ⟨⟨⟨a, b⟩, c⟩, d⟩ := h2 (x, i) hm
    exact ⟨a, .inl (loc x i hm), .inr (loc x i hm)⟩
  · obtain ⟨⟨a, b⟩, c⟩ := h3 x hm
    exact ⟨a, b, c⟩
theorem lookup_one {c : Addr} {y z : Str} : ([(z, c)] : List (Str × Addr)).lookup y = if y = z then some c else none := by
  by_cases h : y = z
  · subst h
    simp [List.lookup]
  · have e : (y == z) = false := by simpa using h
    rw [if_neg h]
    simp [List.lookup, e]
/-- what the written call of super() looks like -/
structure SupSyn (env : Env) (e : Expr) (es : List Expr) (p0 p1 p2 p3 p4 : Pos) (pl : Sem Bool) : Prop where
  hi : interactive env = false
  hs : swapsWith (.Call (.Attribute (.Call (.Name "super" p0) [] [] p1) "__init__" p2) (e :: es) [] p3) none p4.line env = pure false
  hc : eval (.Call (.Attribute (.Call (.Name "super" p0) [] [] p1) "__init__" p2) (e :: es) [] p3) env = (do
      let ov ← attributeBase (.Call (.Name "super" p0) [] [] p1) "__init__" env (eval (.Call (.Name "super" p0) [] [] p1) env)
      standAt p2.atName
      let (fz, first) ← holding [ov] (getMethod ov "__init__" pl)
      callWith p3 fz first (backTo p3 (starEach (e :: es) env)) [])
  he : starEach (e :: es) env = (false, eval e env) :: starEach es env
  hpl : (backTo p3 (starEach es env)).any (·.1) = false
section
variable {CX : CXT} {P : Program} {w : World} {K : PySem.W.Frag} {mg : Str → Option Value} {base : Heap} {N ps : List Str} {x qual : Str} {st : Stmt} {f C cc cda : Addr} {fd : FuncData} {e : Expr} {es : List Expr} {p0 p1 p2 p3 p4 : Pos} {rest : List Stmt} {k : Nat} {sp : Sp}
theorem funC_ok (FC : FunC P K mg x qual st f C cc cda fd "ValueError.__init__") (T : OexC K C) (S : NdefX.NScope N ps ["__class__"] (defScope st)) (hN : N[0]? = some ("self" : Str)) (len : ∀ vs H Q E, sp vs H Q E → vs.length = ps.length)
    (hb0 : defBody st = .Expr (.Call (.Attribute (.Call (.Name "super" p0) [] [] p1) "__init__" p2) (e :: es) [] p3) p4 :: rest)
    (hbody : ∀ (A : Around) (outer : List Env) (s : Shared) (H : Hp) (vs : List V) (Q : VK) (E : XK), Room k (A.deeper (NdefX.envF (nfOf x qual st cc cda) f s.heap.objs.size)) → sp vs H Q E →
      ∃ (a : Addr) (ta : TA) (t : TS) (pl : Sem Bool), vs[0]? = some (.ref a) ∧ H a = some (exo a C none) ∧ SupSyn (NdefX.ncx CX P w K mg base N (nfOf x qual st cc cda) f A outer s H E).env e es p0 p1 p2 p3 p4 pl ∧
        PA (NdefX.ncx CX P w K mg base N (nfOf x qual st cc cda) f A outer s H E) (e :: es) ta ∧ PSs (NdefX.ncx CX P w K mg base N (nfOf x qual st cc cda) f A outer s H E) rest t ∧
        ∀ Pc : Hp → Prop, (∀ H1, t { nx := fun _ H' => Q .non H', rt := Q } (NdefX.startF N vs [none]) H1 → Pc H1) → ta (NdefX.startF N vs [none]) H fun us H1 => us.length ≤ 1000 ∧ H1 a = some (exo a C none) ∧ Pc H1) :
    FnOk P w K mg base CX (k + 1) f fd ps sp := by
  refine ⟨len, fun A outer s H args us vs Q E hr e0 hb r hsp => ?_⟩
  have hl := len _ _ _ _ hsp
  have KX : K.In s.heap := e0.mod.kin.keeps fun b o e => (e0.bs b o e).1
  have lim : s.heap.NoLimit := e0.mod.nolimit.keeps fun b o e => (e0.bs b o e).1
  obtain ⟨oc, od, kV, doc, pm, an, ct, osl, efd, lk⟩ := FC.ex
  obtain ⟨cl, cld, csl, hcell⟩ := FC.cell
  subst efd
  have hcc : H cc = none ∧ ∃ v, s.heap.IsCell cc v := ⟨(e0.bs cc _ (e0.mod.kin _ _ hcell)).2, _, _, KX _ _ hcell, rfl⟩
  have only : ∀ y c, ([("__class__", cc)] : List (Str × Addr)).lookup y = some c → y = ("__class__" : Str) ∧ c = cc := fun y c z => by
    rw [lookup_one] at z
    split at z
    · rename_i q
      exact ⟨q, (Option.some.inj z).symm⟩
    · cases z
  have C' : NdefX.CellsAt [("__class__", cc)] ["__class__"] [none] s.heap H := ⟨rfl, fun y c z => by
      obtain ⟨rfl, rfl⟩ := only y c z
      exact hcc, fun y z c h1 h2 => by rw [(only y c h1).1, (only z c h2).1], fun i y hi => by
      match i, hi with
      | 0, hi =>
        obtain rfl := Option.some.inj hi
        exact ⟨cc, by rw [lookup_one, if_pos rfl], fun v hv => by cases hv⟩
      | i + 1, hi => exact absurd hi (by simp)⟩
  refine codeAny_call_function hr.depth (KX _ _ lk) rfl S.co S.gen rfl (PySem.W.codeRec_of KX FC.cd) (hb _ _ _ _ ?_)
  refine wpAny_newFunctionEnv S.nocell (fun ⟨n, _⟩ hy => S.par n (List.of_mem_zip hy).1) (fun h₁ hns hsb => ⟨lim.fresh _ hsb, ?_⟩) S.kind
  show codeAny _ _ (.func (defBody st) (NdefX.envF (nfOf x qual st cc cda) f s.heap.objs.size)) _ _
  refine ks_codeAny_funcAt ?_
  have kp : ∀ b o, s.heap.get? b = some o → h₁.get? b = some o := fun b o e => hsb.extBut b o (Nat.ne_of_lt (Heap.lt_size e)) (Heap.get?_push_of_some _ e)
  obtain ⟨a, ta, t, pl, hv0, hx, Y, hpa, hps, hq⟩ := hbody A outer s H vs Q E (hr.deeper _) hsp
  have I : Inv (NdefX.ncx CX P w K mg base N (nfOf x qual st cc cda) f A outer s H E) [] (NdefX.startF N vs [none]) H { s with heap := h₁, toks := s.toks + (ps.zip us).length } := NdefX.inv_startN S hr.hd e0 hl r C' hns kp
  have fin : ∀ {s' : Shared} {σ' : L2.St} {H' : Hp} {v : V} {u : Value}, Inv (NdefX.ncx CX P w K mg base N (nfOf x qual st cc cda) f A outer s H E) [] σ' H' s' → L2.RelV v u → Q v H' → CE outer P w H s Q u s' :=
    fun {s' σ' H' v u} J rv q => ⟨v, H', J.os, J.bare, J.base, J.hok, rv, q⟩
  have hσ : (NdefX.startF N vs [none])[0]? = some (some (.ref a)) := by
    unfold NdefX.startF
    rw [List.getElem?_append_left (by rw [List.length_map]; exact (List.getElem?_eq_some_iff.mp hv0).1), List.getElem?_map, hv0]
    rfl
  have e1 : execs (defBody st) (NdefX.envF (nfOf x qual st cc cda) f s.heap.objs.size) = execs (.Expr (.Call (.Attribute (.Call (.Name "super" p0) [] [] p1) "__init__" p2) (e :: es) [] p3) p4 :: rest) (NdefX.envF (nfOf x qual st cc cda) f s.heap.objs.size) := congrArg (fun b => execs b _) hb0
  rw [e1]
  refine ks_wpAt_execs_cons (sup_stmt FC T S.kind hN I hσ hx hpa (hq (fun H1 => ∀ s', Inv (NdefX.ncx CX P w K mg base N (nfOf x qual st cc cda) f A outer s H E) [] (NdefX.startF N vs [none]) H1 s' → _) fun H1 ht s' J => ?_) Y.hi Y.hs Y.hc Y.he Y.hpl)
  refine wpAt_of_wpAny ?_
  refine wpAny_mono (hps.run [] _ (NdefX.startF N vs [none]) H1 _ J ht) (fun fl s' hs => ?_) fun e s' hs => hs
  cases fl with
  | ret u =>
    obtain ⟨v, σ', H', J, rv, q⟩ := hs
    exact fin J rv q
  | next =>
    obtain ⟨σ', H', J, q⟩ := hs
    exact fin (v := V.non) (u := Value.none) J rfl q
  | brk =>
    obtain ⟨_, _, _, q⟩ := hs
    exact False.elim q
  | cont =>
    obtain ⟨_, _, _, q⟩ := hs
    exact False.elim q
end
end Tw
namespace Tw
open PySem PySem.Spec PyProof.Rows L2
/-! ### rounds as mathematics: how often each state stands at a dial during one round of the dials below -/
def sm (f : Nat → Int) : Nat → Int
  | 0 => 0
  | n + 1 => sm f n + f n
theorem sm_ext {f g : Nat → Int} : ∀ {n : Nat}, (∀ i, i < n → f i = g i) → sm f n = sm g n
  | 0, _ => rfl
  | n + 1, h => by rw [sm, sm, sm_ext fun i hi => h i (Nat.lt_succ_of_lt hi), h n (Nat.lt_succ_self n)]
theorem sm_split (f : Nat → Int) (a : Nat) : ∀ b, sm f (a + b) = sm f a + sm (fun i => f (a + i)) b
  | 0 => by rw [Nat.add_zero, sm, Int.add_zero]
  | b + 1 => by rw [← Nat.add_assoc, sm, sm, sm_split f a b, Int.add_assoc]
theorem sm_plus (f g : Nat → Int) : ∀ n, sm (fun i => f i + g i) n = sm f n + sm g n
  | 0 => rfl
  | n + 1 => by rw [sm, sm, sm, sm_plus f g n]; omega
theorem sm_zero : ∀ n, sm (fun _ => 0) n = 0
  | 0 => rfl
  | n + 1 => by rw [sm, sm_zero n]; rfl
theorem sm_swap (F : Nat → Nat → Int) (m : Nat) : ∀ n, sm (fun i => sm (fun j => F i j) m) n = sm (fun j => sm (fun i => F i j) n) m
  | 0 => by
    rw [sm, ← sm_zero m]
    exact sm_ext fun j _ => rfl
  | n + 1 => by
    rw [sm, sm_swap F m n, ← sm_plus]
    exact sm_ext fun j _ => rfl
theorem sm_grid (f : Nat → Int) (L : Nat) : ∀ m, sm f (m * L) = sm (fun j => sm (fun i => f (j * L + i)) L) m
  | 0 => by rw [Nat.zero_mul]; rfl
  | m + 1 => by rw [Nat.succ_mul, sm_split, sm_grid f L m, sm]
theorem sm_list (f : Nat → Int) : ∀ n, sm f n = ((List.range n).map f).sum
  | 0 => rfl
  | n + 1 => by rw [sm, sm_list f n, List.range_succ, List.map_append, List.sum_append]; simp
theorem perm_sum {l l' : List Int} (h : l.Perm l') : l.sum = l'.sum := by
  induction h with
  | nil => rfl
  | cons x _ ih => rw [List.sum_cons, List.sum_cons, ih]
  | swap x y l => rw [List.sum_cons, List.sum_cons, List.sum_cons, List.sum_cons]; omega
  | trans _ _ a b => rw [a, b]
/-! the rests of t, 2 t, 3 t .. modulo a prime -/
theorem res2 : ∀ t, t < 2 → ∀ b, b < 2 → t ≠ 0 → ((List.range 2).map fun j => (j * t + b) % 2).isPerm (List.range 2) = true := by decide +kernel
theorem res3 : ∀ t, t < 3 → ∀ b, b < 3 → t ≠ 0 → ((List.range 3).map fun j => (j * t + b) % 3).isPerm (List.range 3) = true := by decide +kernel
theorem res5 : ∀ t, t < 5 → ∀ b, b < 5 → t ≠ 0 → ((List.range 5).map fun j => (j * t + b) % 5).isPerm (List.range 5) = true := by decide +kernel
theorem res7 : ∀ t, t < 7 → ∀ b, b < 7 → t ≠ 0 → ((List.range 7).map fun j => (j * t + b) % 7).isPerm (List.range 7) = true := by decide +kernel
theorem res_perm {p : Int} (hP : IsP p) {t b : Nat} (ht : (t : Int) < p) (hb : (b : Int) < p) (h0 : t ≠ 0) : ((List.range p.toNat).map fun j => (j * t + b) % p.toNat).Perm (List.range p.toNat) := by
  rcases hP with rfl | rfl | rfl | rfl
  · exact List.isPerm_iff.mp (res2 t (by omega) b (by omega) h0)
  · exact List.isPerm_iff.mp (res3 t (by omega) b (by omega) h0)
  · exact List.isPerm_iff.mp (res5 t (by omega) b (by omega) h0)
  · exact List.isPerm_iff.mp (res7 t (by omega) b (by omega) h0)
theorem res_sum {p : Int} (hP : IsP p) (T a : Int) (h0 : T % p ≠ 0) (g : Int → Int) : sm (fun j => g (((j : Int) * T + a) % p)) p.toNat = sm (fun x => g (x : Int)) p.toNat := by
  have p2 := hP.two
  have hp : ((p.toNat : Nat) : Int) = p := Int.toNat_of_nonneg (by omega)
  have t0 : 0 ≤ T % p := Int.emod_nonneg _ (by omega)
  have t1 : T % p < p := Int.emod_lt_of_pos _ (by omega)
  have a0 : 0 ≤ a % p := Int.emod_nonneg _ (by omega)
  have a1 : a % p < p := Int.emod_lt_of_pos _ (by omega)
  have q := res_perm hP (t := (T % p).toNat) (b := (a % p).toNat) (by omega) (by omega) (by omega)
  have e : ∀ j : Nat, ((j : Int) * T + a) % p = (((j * (T % p).toNat + (a % p).toNat) % p.toNat : Nat) : Int) := fun j => by
    rw [Int.natCast_emod, hp, Int.natCast_add, Int.natCast_mul, Int.toNat_of_nonneg t0, Int.toNat_of_nonneg a0]
    conv => lhs; rw [Int.add_emod, Int.mul_emod]
    conv => rhs; rw [Int.add_emod, Int.mul_emod, Int.emod_emod, Int.emod_emod]
  rw [sm_list, sm_list]
  have z := perm_sum (List.Perm.map (fun x : Nat => g (x : Int)) q)
  rw [List.map_map] at z
  rw [← z]
  congr 1
  refine List.map_congr_left fun j _ => ?_
  rw [e j]
  rfl
/-! the settings that come about from the setting of zeros -/
section
variable (p : Int) (M : Mach) (st : Int)
def itB (n : Nat) : Nat → List Int
  | 0 => List.replicate n 0
  | i + 1 => behM p M st (itB n i)
def sumT (n i : Nat) : Int := sm (fun k => turnM M (runM M st (itB p M st n k))) i
/-- L is how long the round of the setting of n zeros is -/
structure Per (n L : Nat) : Prop where
  pos : 0 < L
  back : itB p M st n L = List.replicate n 0
  fst : ∀ i, 0 < i → i < L → itB p M st n i ≠ List.replicate n 0
end
section
variable {p : Int} {M : Mach} {st : Int}
theorem behM_snoc (ds : List Int) (x : Int) : behM p M st (ds ++ [x]) = behM p M st ds ++ [(x + turnM M (runM M st ds)) % p] := by
  unfold behM
  rw [wayM_snoc, List.zipWith_append (by rw [wayM_len])]
  rfl
theorem itB_len (n : Nat) : ∀ i, (itB p M st n i).length = n
  | 0 => by rw [itB, List.length_replicate]
  | i + 1 => by rw [itB, behM_len, itB_len n i]
theorem itB_figs (hP : IsP p) (n : Nat) : ∀ i, ∀ d ∈ itB p M st n i, 0 ≤ d ∧ d < p
  | 0, d, hd => by
    have p2 := hP.two
    rw [itB] at hd
    rw [List.eq_of_mem_replicate hd]; omega
  | i + 1, d, hd => by rw [itB] at hd; exact behM_in hP _ _ d hd
theorem itB_up (hP : IsP p) (n : Nat) : ∀ i, itB p M st (n + 1) i = itB p M st n i ++ [sumT p M st n i % p]
  | 0 => by
    show List.replicate (n + 1) 0 = List.replicate n 0 ++ [(0 : Int) % p]
    rw [Int.zero_emod, List.replicate_succ']
  | i + 1 => by
    show behM p M st (itB p M st (n + 1) i) = behM p M st (itB p M st n i) ++ [(sumT p M st n i + turnM M (runM M st (itB p M st n i))) % p]
    rw [itB_up hP n i, behM_snoc, md_add hP]
theorem per_zero : Per p M st 0 1 := ⟨by decide, by
  have := itB_len (p := p) (M := M) (st := st) 0 1
  rw [List.length_eq_zero_iff.mp this]; rfl, fun i h1 h2 => by omega⟩
theorem Per.add {n L : Nat} (h : Per p M st n L) : ∀ i, itB p M st n (L + i) = itB p M st n i
  | 0 => by rw [Nat.add_zero, h.back]; rfl
  | i + 1 => by
    show behM p M st (itB p M st n (L + i)) = behM p M st (itB p M st n i)
    rw [h.add i]
theorem Per.mul {n L : Nat} (h : Per p M st n L) (i : Nat) : ∀ j, itB p M st n (j * L + i) = itB p M st n i
  | 0 => by rw [Nat.zero_mul, Nat.zero_add]
  | j + 1 => by rw [Nat.succ_mul, Nat.add_comm (j * L) L, Nat.add_assoc, h.add, h.mul i j]
theorem Per.sum {n L : Nat} (h : Per p M st n L) (i : Nat) : ∀ j, sumT p M st n (j * L + i) = (j : Int) * sumT p M st n L + sumT p M st n i
  | 0 => by rw [Nat.zero_mul, Nat.zero_add]; show _ = 0 * _ + _; rw [Int.zero_mul, Int.zero_add]
  | j + 1 => by
    have z := h.sum i j
    have e : sumT p M st n (L + (j * L + i)) = sumT p M st n L + sumT p M st n (j * L + i) := by
      show sm _ (L + (j * L + i)) = sm _ L + sm _ (j * L + i)
      rw [sm_split]
      congr 1
      exact sm_ext fun k _ => by rw [h.add]
    rw [Nat.succ_mul, Nat.add_comm (j * L) L, Nat.add_assoc, e, z, Int.natCast_add, Int.add_mul]
    show _ = _ + (1 : Int) * _ + _
    rw [Int.one_mul]; omega
theorem no_mul {p : Int} (hP : IsP p) {T : Int} (hT : T % p ≠ 0) {j : Nat} (j0 : 0 < j) (j1 : (j : Int) < p) : ((j : Int) * T) % p ≠ 0 := by
  have p2 := hP.two
  rw [Int.mul_emod]
  have t0 : 0 ≤ T % p := Int.emod_nonneg _ (by omega)
  have t1 : T % p < p := Int.emod_lt_of_pos _ (by omega)
  generalize T % p = t at *
  have ej : (j : Int) % p = j := Int.emod_eq_of_lt (by omega) j1
  rw [ej]
  rcases hP with rfl | rfl | rfl | rfl
  · have : j = 1 := by omega
    subst this; omega
  · have : j = 1 ∨ j = 2 := by omega
    rcases this with rfl | rfl <;> omega
  · have : j = 1 ∨ j = 2 ∨ j = 3 ∨ j = 4 := by omega
    rcases this with rfl | rfl | rfl | rfl <;> omega
  · have : j = 1 ∨ j = 2 ∨ j = 3 ∨ j = 4 ∨ j = 5 ∨ j = 6 := by omega
    rcases this with rfl | rfl | rfl | rfl | rfl | rfl <;> omega
theorem zeros_up (n : Nat) : List.replicate (n + 1) (0 : Int) = List.replicate n 0 ++ [0] := List.replicate_succ'
theorem snoc_inj {a b : List Int} {x y : Int} (h : a ++ [x] = b ++ [y]) : a = b ∧ x = y := by
  have := List.append_inj' h rfl
  exact ⟨this.1, by simpa using this.2⟩
theorem Per.next (hP : IsP p) {n L : Nat} (h : Per p M st n L) (hT : sumT p M st n L % p ≠ 0) : Per p M st (n + 1) (p.toNat * L) := by
  have p2 := hP.two
  have hp : ((p.toNat : Nat) : Int) = p := Int.toNat_of_nonneg (by omega)
  refine ⟨Nat.mul_pos (by omega) h.pos, ?_, fun i h0 h1 => ?_⟩
  · have e := h.mul 0 p.toNat
    have s := h.sum 0 p.toNat
    rw [Nat.add_zero] at e s
    rw [itB_up hP, e, s, hp, zeros_up]
    show List.replicate n 0 ++ _ = _
    congr 2
    show (p * _ + 0) % p = 0
    rw [Int.add_zero, Int.mul_emod_right]
  · have hd : i = i / L * L + i % L := (Nat.div_add_mod' i L).symm
    have hl : i % L < L := Nat.mod_lt _ h.pos
    have hj : i / L < p.toNat := Nat.div_lt_of_lt_mul (by rw [Nat.mul_comm]; exact h1)
    generalize i / L = j at *
    generalize i % L = r at *
    subst hd
    rw [itB_up hP, h.mul, h.sum, zeros_up]
    intro z
    obtain ⟨z1, z2⟩ := snoc_inj z
    by_cases c : r = 0
    · subst c
      have : sumT p M st n 0 = 0 := rfl
      rw [this, Int.add_zero] at z2
      exact no_mul hP hT (by rcases Nat.eq_zero_or_pos j with q | q
                             · rw [q] at h0; omega
                             · exact q) (by omega) z2
    · exact h.fst r (by omega) hl z1
/-- the sum of a weight over the states in which the dial is reached during the round -/
def rdG (p : Int) (M : Mach) (st : Int) (n L : Nat) (g : Int → Int) : Int := sm (fun i => g (runM M st (itB p M st n i))) L
def nxG (p : Int) (M : Mach) (g : Int → Int) (q : Int) : Int := sm (fun x => g (goM M q (x : Int))) p.toNat
theorem rdG_next (hP : IsP p) {n L : Nat} (h : Per p M st n L) (hT : sumT p M st n L % p ≠ 0) (g : Int → Int) : rdG p M st (n + 1) (p.toNat * L) g = rdG p M st n L (nxG p M g) := by
  unfold rdG
  rw [sm_grid, sm_swap (fun j i => g (runM M st (itB p M st (n + 1) (j * L + i)))) L p.toNat]
  refine sm_ext fun i hi => ?_
  unfold nxG
  rw [← res_sum hP (sumT p M st n L) (sumT p M st n i) hT fun x => g (goM M (runM M st (itB p M st n i)) x)]
  refine sm_ext fun j hj => ?_
  rw [itB_up hP, runM_snoc, h.mul, h.sum]
theorem rdG_zero (g : Int → Int) : rdG p M st 0 1 g = g st := by
  show 0 + g (runM M st (List.replicate 0 0)) = g st
  rw [Int.zero_add]; rfl
end
end Tw
namespace Tw
open PySem PySem.Spec PyProof.Rows L2
/-! ### counts against visits -/
theorem sm_one (k : Nat) (a : Int) : ∀ n, k < n → sm (fun q => if q = k then a else 0) n = a
  | 0, h => by omega
  | n + 1, h => by
    rw [sm]
    by_cases c : n = k
    · subst c
      have e : sm (fun q => if q = n then a else 0) n = sm (fun _ => 0) n := sm_ext fun i hi => by
        show (if i = n then a else 0) = 0
        rw [if_neg (by omega)]
      rw [e, sm_zero, if_pos rfl, Int.zero_add]
    · rw [sm_one k a n (by omega), if_neg c, Int.add_zero]
theorem getD_set (l : List Int) (k : Nat) (v : Int) (hk : k < l.length) (q : Nat) : (l.set k v).getD q 0 = if q = k then v else l.getD q 0 := by
  rw [List.getD_eq_getElem?_getD, List.getElem?_set]
  by_cases c : q = k
  · subst c
    rw [if_pos rfl, if_pos rfl, if_pos hk]; rfl
  · rw [if_neg (fun e => c e.symm), if_neg c, List.getD_eq_getElem?_getD]
/-- the weighted sum of counts -/
def prC (l : List Int) (g : Int → Int) : Int := sm (fun q => l.getD q 0 * g (q : Int)) l.length
theorem prC_addA (l : List Int) (g : Int → Int) (s c : Int) (s0 : 0 ≤ s) (s1 : s < (l.length : Int)) : prC (addA l s c) g = prC l g + c * g s := by
  have hk : s.toNat < l.length := by omega
  have es : ((s.toNat : Nat) : Int) = s := Int.toNat_of_nonneg s0
  unfold prC
  rw [addA_len]
  have e : sm (fun q => (addA l s c).getD q 0 * g (q : Int)) l.length = sm (fun q => l.getD q 0 * g (q : Int) + if q = s.toNat then c * g s else 0) l.length := sm_ext fun q hq => by
    show (l.set s.toNat (l.getD s.toNat 0 + c)).getD q 0 * g (q : Int) = l.getD q 0 * g (q : Int) + _
    rw [getD_set l _ _ hk]
    by_cases d : q = s.toNat
    · subst d
      rw [if_pos rfl, if_pos rfl, es, Int.add_mul]
    · rw [if_neg d, if_neg d, Int.add_zero]
  rw [e, sm_plus, sm_one _ _ _ hk]
theorem prC_addR (g : Int → Int) (c : Int) (gs : List Int) : ∀ l : List Int, (∀ s ∈ gs, 0 ≤ s ∧ s < (l.length : Int)) → prC (addR l gs c) g = prC l g + c * (gs.map g).sum := by
  induction gs with
  | nil => intro l _; show prC l g = _ + c * 0; rw [Int.mul_zero, Int.add_zero]
  | cons s r ih =>
    intro l h
    show prC (addR (addA l s c) r c) g = _
    have hs := h s (List.mem_cons_self ..)
    rw [ih _ fun x hx => by rw [addA_len]; exact h x (List.mem_cons_of_mem _ hx), prC_addA l g s c hs.1 hs.2, List.map_cons, List.sum_cons, Int.mul_add]
    omega
theorem prC_zero (n : Nat) (g : Int → Int) : prC (List.replicate n 0) g = 0 := by
  refine Eq.trans (sm_ext (g := fun _ => 0) fun q hq => ?_) (sm_zero _)
  have e : (List.replicate n (0 : Int)).getD q 0 = 0 := by
    rw [List.getD_eq_getElem?_getD]
    cases h : (List.replicate n (0 : Int))[q]? with
    | none => rfl
    | some x => exact List.eq_of_mem_replicate (List.mem_of_getElem? h)
  rw [e, Int.zero_mul]
theorem sum_at (gs : List Int) (g : Int → Int) : (gs.map g).sum = sm (fun x => g (gs.getD x 0)) gs.length := by
  rw [sm_list]
  congr 1
  refine List.ext_getElem? fun i => ?_
  rw [List.getElem?_map, List.getElem?_map]
  by_cases h : i < gs.length
  · rw [List.getElem?_range h, List.getElem?_eq_getElem h]
    show some (g gs[i]) = some (g (gs.getD i 0))
    rw [List.getD_eq_getElem?_getD]
    show some _ = some (g ((gs[i]?).getD 0))
    rw [List.getElem?_eq_getElem h]; rfl
  · rw [List.getElem?_eq_none (by omega), List.getElem?_eq_none (by rw [List.length_range]; omega)]; rfl
section
variable {p : Int} {M : Mach}
theorem prC_sum (hO : OkM p M.length M) (cs : List Int) (g : Int → Int) : ∀ k, k ≤ M.length → prC (sumC M cs k) g = sm (fun q => cs.getD q 0 * nxG p M g (q : Int)) k
  | 0, _ => prC_zero _ g
  | k + 1, h => by
    have hk : k < M.length := h
    have ek : M.getD k (0, []) = M[k] := by rw [List.getD_eq_getElem?_getD, List.getElem?_eq_getElem hk]; rfl
    have hm := List.getElem_mem hk
    rw [sumC, sm, prC_addR g _ _ _ (fun s hs => by
      rw [ek] at hs
      rw [sumC_len]
      exact hO.goal _ hm s hs), prC_sum hO cs g k (by omega), sum_at]
    congr 2
    unfold nxG
    have hl := hO.many _ hm
    rw [ek]
    have e : M[k].2.length = p.toNat := by omega
    rw [e]
    refine sm_ext fun x _ => ?_
    show _ = g ((M.getD (k : Int).toNat (0, [])).2.getD (x : Int).toNat 0)
    rw [Int.toNat_natCast, Int.toNat_natCast, ek]
theorem sm_mod {f g : Nat → Int} (p : Int) (h : ∀ i, f i % p = g i % p) : ∀ n, sm f n % p = sm g n % p
  | 0 => rfl
  | n + 1 => by rw [sm, sm, Int.add_emod, sm_mod p h n, h n, ← Int.add_emod]
theorem prC_mod (p : Int) (l : List Int) (g : Int → Int) : prC (l.map (· % p)) g % p = prC l g % p := by
  unfold prC
  rw [List.length_map]
  refine sm_mod p (fun q => ?_) _
  rw [getD_md, Int.mul_emod, Int.emod_emod, ← Int.mul_emod]
theorem prC_next (hO : OkM p M.length M) {cs : List Int} (hc : CsOk p M cs) (g : Int → Int) : prC (nextC p M cs) g % p = prC cs (nxG p M g) % p := by
  unfold nextC
  rw [prC_mod, prC_sum hO cs g _ (Nat.le_refl _)]
  unfold prC
  rw [hc.len]
theorem prC_first {st : Int} (z0 : 0 ≤ st) (z1 : st < (M.length : Int)) (g : Int → Int) : prC (firstC M st) g = g st := by
  have e : firstC M st = addA (List.replicate M.length 0) st 1 := by
    unfold firstC addA
    refine List.ext_getElem? fun i => ?_
    rw [List.getElem?_map, List.getElem?_set]
    by_cases h : i < M.length
    · rw [List.getElem?_range h]
      by_cases c : st.toNat = i
      · rw [if_pos c, if_pos (by rw [List.length_replicate]; omega)]
        show some (if (i : Int) = st then (1 : Int) else 0) = _
        rw [if_pos (by omega)]
        have q : (List.replicate M.length (0 : Int)).getD st.toNat 0 = 0 := by
          rw [List.getD_eq_getElem?_getD, List.getElem?_replicate, if_pos (by omega)]; rfl
        rw [q]; rfl
      · rw [if_neg c, List.getElem?_replicate, if_pos h]
        show some (if (i : Int) = st then (1 : Int) else 0) = _
        rw [if_neg (by omega)]
    · have n1 : (List.range M.length)[i]? = none := List.getElem?_eq_none (by rw [List.length_range]; omega)
      have n2 : (List.replicate M.length (0 : Int))[i]? = none := List.getElem?_eq_none (by rw [List.length_replicate]; omega)
      rw [n1, n2, if_neg (show ¬ st.toNat = i by omega)]; rfl
  rw [e, prC_addA _ g st 1 z0 (by rw [List.length_replicate]; exact z1), prC_zero, Int.one_mul, Int.zero_add]
variable {st : Int}
/-- n dials: how long the round is, and that the counts weigh as the visits -/
structure Rnd (p : Int) (M : Mach) (st : Int) (n L : Nat) : Prop where
  per : Per p M st n L
  wt : ∀ g, rdG p M st n L g % p = prC (itC p M st n) g % p
theorem Rnd.zero (z0 : 0 ≤ st) (z1 : st < (M.length : Int)) : Rnd p M st 0 1 := ⟨per_zero, fun g => by
  rw [rdG_zero]
  show _ = prC (firstC M st) g % p
  rw [prC_first z0 z1]⟩
theorem tot_wt {cs : List Int} (hc : CsOk p M cs) : totC p M cs = prC cs (turnM M) % p := by
  unfold totC prodC prC
  rw [hc.len, sm_list]
  congr 2
theorem Rnd.tot (hP : IsP p) {n L : Nat} (h : Rnd p M st n L) : sumT p M st n L % p = totN p M st n := by
  unfold totN
  rw [tot_wt (itC_ok hP M st n), ← h.wt]
  rfl
theorem Rnd.next (hP : IsP p) (hO : OkM p M.length M) {n L : Nat} (h : Rnd p M st n L) (hT : sumT p M st n L % p ≠ 0) : Rnd p M st (n + 1) (p.toNat * L) := ⟨h.per.next hP hT, fun g => by
  rw [rdG_next hP h.per hT, h.wt]
  show _ = prC (nextC p M (itC p M st n)) g % p
  rw [prC_next hO (itC_ok hP M st n)]⟩
end
end Tw
namespace Tw
open PySem PySem.Spec PyProof.Rows L2
/-! ### a tuple any number of times: once is the tuple itself, no times is an empty one made anew -/
theorem mul_once (a : Addr) (its : Array Value) (n : Nat) (dd : Option Addr) (sl : Array (Option Value)) (u : Tok) (hi : its.isEmpty = false) :
    Meets (Builtin.«tuple.__mul__» ⟨[.ref a, .int 1 u], []⟩) (fun _ R s => s.heap.get? a = some { cls := .type "tuple", dict := dd, data := .seq its n, slots := sl } ∧ R (.ok (.ret (.ref a))) s) :=
  .of_wp fun prog w A R s h => by
    obtain ⟨hp, g, d, tk, os⟩ := s
    obtain ⟨hl, h⟩ := h
    have f1 := AutoSeq1.idx_int
    wp_walk using wpAny_loadPart' hl
    all_goals exact ⟨_, rfl, h⟩
theorem mul_none (a : Addr) (its : Array Value) (n : Nat) (dd : Option Addr) (sl : Array (Option Value)) (u : Tok) (hi : its.isEmpty = false) :
    Meets (Builtin.«tuple.__mul__» ⟨[.ref a, .int 0 u], []⟩) (fun _ R s => s.heap.get? a = some { cls := .type "tuple", dict := dd, data := .seq its n, slots := sl } ∧ R (.ok (.ret (Value.ref s.heap.objs.size))) { s with heap := s.heap.push { cls := Value.type "tuple", data := Data.seq #[] }, toks := s.toks }) :=
  .of_wp fun prog w A R s h => by
    obtain ⟨hp, g, d, tk, os⟩ := s
    obtain ⟨hl, h⟩ := h
    have f1 := AutoSeq1.idx_int
    wp_walk using wpAny_loadPart' hl
    all_goals exact ⟨_, rfl, h⟩
def rRepN (K : PySem.W.Frag) : R2 := fun x y H Q => ∃ l k xs, x = .ref l ∧ y = .int k ∧ SqT K H l xs ∧ xs ≠ [] ∧ 0 ≤ k ∧ k ≤ 1000 ∧ xs.length ≤ 1000 ∧ (k = 1 → Q (.ref l) H) ∧ (k ≠ 1 → ∀ p, H p = none → Q (.ref p) (upd H p (.tup (List.replicate k.toNat xs).flatten)))
theorem op_repN {X : Cx} : OpR X (binaryOp .Mult) (rRepN X.K) := by
  intro pins s σ H x y v u Q I rx ry h
  obtain ⟨l, k, xs, ex, ey, hT, hne, k0, k1, hz, q1, q2⟩ := h
  rcases (by omega : 2 ≤ k ∨ k = 1 ∨ k = 0) with c | c | c
  · exact op_repT pins s σ H x y v u Q I rx ry ⟨l, k, xs, ex, ey, hT, hne, c, k1, hz, q2 (by omega)⟩
  all_goals
    subst ex ey c
    cases rx
    obtain ⟨t, rfl⟩ := ry
    obtain ⟨its, r, ⟨⟨cls, dd, data, sl⟩, ho, hc, n, hd⟩, hs⟩ := I.tuple hT
    dsimp only at hc hd
    subst hc hd
    have full : its.toArray.isEmpty = false := by
      match its, r.length with
      | [], e => exact absurd (List.eq_nil_of_length_eq_zero e) hne
      | _ :: _, _ => rfl
  · exact wpAny_binaryOp_repeat_ref (T := "tuple") (U := "int") (by decide) ⟨_, ho, rfl⟩ (fun s' => typeIs_int s' _ t) noFill_tuple_mul F.fills_int_mul F.slot_int_rmul repeat_tuple F.slot_int_index.lookup
      (call_meets F.slot_int_rmul (typeIs_int s _ t) F.entry_int_rmul (F.args_int_rmul_2 _ _) (int_rmul_tuple _ t l its.toArray n dd sl)
        ⟨ho, rfl, ⟨_, ho, rfl⟩, call_meets F.slot_tuple_mul ⟨_, ho, rfl⟩ F.entry_tuple_mul (F.args_tuple_mul_2 _ _) (mul_once l its.toArray n dd sl t full) ⟨ho, .ref l, H, I, rfl, q1 rfl⟩⟩)
  · refine wpAny_binaryOp_repeat_ref (T := "tuple") (U := "int") (by decide) ⟨_, ho, rfl⟩ (fun s' => typeIs_int s' _ t) noFill_tuple_mul F.fills_int_mul F.slot_int_rmul repeat_tuple F.slot_int_index.lookup
      (call_meets F.slot_int_rmul (typeIs_int s _ t) F.entry_int_rmul (F.args_int_rmul_2 _ _) (int_rmul_tuple _ t l its.toArray n dd sl)
        ⟨ho, rfl, ⟨_, ho, rfl⟩, call_meets F.slot_tuple_mul ⟨_, ho, rfl⟩ F.entry_tuple_mul (F.args_tuple_mul_2 _ _) (mul_none l its.toArray n dd sl t full) ⟨ho, ?_⟩⟩)
    have q := q2 (by decide) _ (I.hok.fresh (Nat.le_refl _))
    refine ⟨.ref s.heap.objs.size, _, I.laid (t' := s.toks) (o := .tup []) (fun b ob z => Heap.get?_push_of_some _ z) (Nat.le_refl _) ?_, rfl, q⟩
    exact ⟨Nat.zero_le _, [], .nil, IsTup.new _ _⟩
theorem ints_rep (d : Int) (k : Nat) : (List.replicate k [V.int d]).flatten = (List.replicate k d).map V.int := by
  induction k with
  | zero => rfl
  | succ k ih => rw [List.replicate_succ, List.replicate_succ, List.flatten_cons, ih]; rfl
/-- (d,) * k -/
theorem repN_one {K : PySem.W.Frag} {H : Hp} {l : Addr} {d k : Int} {Q : VK} (hl : H l = some (.tup [.int d])) (k0 : 0 ≤ k) (k1 : k ≤ 1000) (h : ∀ p H', Same H H' → (p = l ∨ H p = none) → H' p = some (.tup ((List.replicate k.toNat d).map V.int)) → Q (.ref p) H') : rRepN K (.ref l) (.int k) H Q := by
  refine ⟨l, k, [.int d], rfl, rfl, SqT.of hl, by simp, k0, k1, by show 1 ≤ 1000; decide, fun e => ?_, fun _ p hp => ?_⟩
  · subst e
    exact h l H (fun _ _ e => e) (.inl rfl) hl
  · rw [ints_rep]
    exact h p _ (same_new hp) (.inr hp) upd_same
end Tw
namespace Tw
open PySem PySem.Spec PyProof.Rows L2
/-! ### super().__init__(x) where the next class has an own __init__ -/
/-- a method of the class at C whose body reads __class__; fA: the method that super() finds -/
structure FunO (P : Program) (K : PySem.W.Frag) (mg : Str → Option Value) (x qual : Str) (st : Stmt) (f C cc cda : Addr) (fd : FuncData) (fA : Addr) : Prop where
  ex : ∃ (oc : Value) (od : Option Addr) (kV doc pm : Value) (an : Option Addr) (ct : Value) (osl : Array (Option Value)),
    fd = PySem.W.fnX x qual (defArgs st) (defBody st) (defScope st) [("__class__", cc)] .none kV doc pm an (.ref cda) ct ∧ K.lookup f = some ⟨oc, od, .func fd, osl⟩
  cd : PySem.W.codeIn K (.ref cda) qual = true
  cell : ∃ (cl : Value) (cld : Option Addr) (csl : Array (Option Value)), K.lookup cc = some ⟨cl, cld, .cell (some (.ref C)), csl⟩
  co : ∃ (ccl : Value) (cdd : Option Addr) (vs : Array Value) (ccs : Array (Option Value)) (file : Str) (tf : Tok), K.lookup cda = some ⟨ccl, cdd, .fields vs, ccs⟩ ∧ vs[2]? = some (.str file tf) ∧ ((P.main.file : Str) == file) = true
  cls : PySem.W.isClsIn K C = true
  mro : PySem.W.mroIn K C (.ref C) = some true
  sup : PySem.W.ks_superIn K C C "__init__" = some (some (.ref fA))
  fi : PySem.W.fnIn K fA = true
  fo : PySem.W.isFn K (.ref fA) = true
  opq : PySem.W.nsIn K cStatics "thirdparty.any" = some none
  mgs : mg "super" = none
  top : (P.main.scope.names.lookup ("super" : Str)).isSome = false
  par : ∃ ar, ((defArgs st).posonlyargs ++ (defArgs st).args).head? = some ar ∧ ar.arg = ("self" : Str)
  scS : (defScope st).names.lookup ("super" : Str) = some .globalImplicit
  scC : (defScope st).names.lookup ("__class__" : Str) = some .free
  scL : (defScope st).names.lookup ("self" : Str) = some .local
section
variable {P : Program} {w : World} {K : PySem.W.Frag} {mg : Str → Option Value} {base : Heap} {N : List Str} {x qual : Str} {st : Stmt} {f C cc cda a fA dx : Addr} {fs : List (Str × V)} {fd : FuncData} {A : Around} {outer : List Env} {s0 s : Shared} {H0 H : Hp} {E : XK} {σ : L2.St} {e : Expr} {es : List Expr} {ta : TA} {p0 p1 p2 p3 p4 : Pos} {R : Flow → Shared → Prop} {spA : Sp} {kA : Nat} {pl : Sem Bool}
end
section
variable {P : Program} {w : World} {K : PySem.W.Frag} {mg : Str → Option Value} {base : Heap} {N ps : List Str} {x qual : Str} {st : Stmt} {f C cc cda : Addr} {fd : FuncData} {e : Expr} {es : List Expr} {p0 p1 p2 p3 p4 : Pos} {rest : List Stmt} {k : Nat} {sp : Sp}
end
end Tw
namespace Tw
open PySem PySem.Spec PyProof.Rows L2
/-! ### a comprehension whose items are lists made anew -/
theorem lcB {K : PySem.W.Frag} {J : It} {xs : List V} {R : Nat → V → Hp → Prop} {g : TG} {te : TE} {vs : List Nat} {σ : L2.St} {H1 : Hp} {D : Addr} {Qd : Hp → Prop} (hD : H1 D = none) (hz : xs.length < sizeLine)
    (hgo : ∀ H (j : Nat), Same H1 H → j < xs.length → J.go j H) (hstop : ∀ H, Same H1 H → J.stop xs.length H)
    (hR : ∀ i y H H', Same H H' → R i y H → R i y H') (hRl : ∀ i y H zs, R i y H → R i y (upd H D (.lst zs)))
    (he : ∀ (j : Nat) x H' v H2 (Qk : V → Hp → Prop), xs[j]? = some x → Same H1 H' → (∃ ys, H' D = some (.lst ys)) → J.yld j H' v H2 → (∀ y H3, Same H' H3 → R j y H3 → Qk y H3) → g v (wipe σ vs) H2 fun σ2 H3 => wipe σ2 vs = wipe σ vs ∧ te σ2 H3 Qk)
    (hd : ∀ ys H', Same H1 H' → H' D = some (.lst ys) → ys.length = xs.length → (∀ (i : Nat) y, ys[i]? = some y → R i y H') → Qd H')
    (hgm : ∀ v σ H (A B : L2.St → Hp → Prop), (∀ σ H, A σ H → B σ H) → g v σ H A → g v σ H B) :
    ∃ W : Nat → Nat → Hp → Prop, (∃ m, W 0 m (upd H1 D (.lst []))) ∧ ∀ i' m H, W i' m H →
      (J.stop i' H ∧ Qd H) ∨ (J.go i' H ∧ ∃ Nx : Hp → Prop, (∀ H', Nx H' → ∃ m', m' < m ∧ W (i' + 1) m' H') ∧ ∀ x H', J.yld i' H x H' → g x (wipe σ vs) H' fun σ2 H2 => wipe σ2 vs = wipe σ vs ∧ tYes σ2 H2 fun b H3 =>
        if b = true then te σ2 H3 fun y H4 => ∃ acc, H4 D = some (.lst acc) ∧ acc.length < sizeLine ∧ Nx (upd H4 D (.lst (acc ++ [y]))) else Nx H3) := by
  refine ⟨fun j m H => m = xs.length - j ∧ j ≤ xs.length ∧ Same H1 H ∧ ∃ ys, H D = some (.lst ys) ∧ ys.length = j ∧ ∀ (i : Nat) y, ys[i]? = some y → R i y H,
    ⟨xs.length, rfl, Nat.zero_le _, same_new hD, [], upd_same, rfl, fun i y h => by simp at h⟩, ?_⟩
  rintro j m H ⟨rfl, hj, s1, ys, hDl, hyl, hy⟩
  by_cases c : j < xs.length
  · have hx : xs[j]? = some xs[j] := List.getElem?_eq_getElem c
    refine .inr ⟨hgo H j s1 c, fun H' => Same H1 H' ∧ ∃ ys, H' D = some (.lst ys) ∧ ys.length = j + 1 ∧ ∀ (i : Nat) y, ys[i]? = some y → R i y H', fun H' p => ⟨xs.length - (j + 1), by omega, rfl, c, p⟩, ?_⟩
    intro v H' hyld
    refine hgm _ _ _ _ _ (fun σ2 H2 p => ⟨p.1, yes_ p.2⟩) (he j _ H v H' (fun y H4 => ∃ acc, H4 D = some (.lst acc) ∧ acc.length < sizeLine ∧ Same H1 (upd H4 D (.lst (acc ++ [y]))) ∧ ∃ ys, (upd H4 D (.lst (acc ++ [y]))) D = some (.lst ys) ∧ ys.length = j + 1 ∧ ∀ (i : Nat) z, ys[i]? = some z → R i z (upd H4 D (.lst (acc ++ [y])))) hx s1 ⟨ys, hDl⟩ hyld fun y H3 s3 r => ?_)
    refine ⟨ys, s3 _ _ hDl, by omega, same_put (Same.trans s1 s3) hD, ys ++ [y], upd_same, by simp [hyl], fun i z hz' => ?_⟩
    by_cases ci : i < ys.length
    · rw [List.getElem?_append_left ci] at hz'
      exact hRl _ _ _ _ (hR _ _ _ _ s3 (hy i z hz'))
    · rw [List.getElem?_append_right (by omega)] at hz'
      by_cases c0 : i - ys.length = 0
      · rw [c0] at hz'
        obtain rfl := Option.some.inj hz'
        have ei : i = j := by omega
        subst ei
        exact hRl _ _ _ _ r
      · obtain ⟨q, hq⟩ : ∃ q, i - ys.length = q + 1 := ⟨i - ys.length - 1, by omega⟩
        rw [hq] at hz'
        simp at hz'
  · have e : j = xs.length := by omega
    subst e
    exact .inl ⟨hstop H s1, hd ys H s1 hDl hyl hy⟩
/-! ### a dict of the places of tuples of ints -/
def kyL (ds : List Int) : List Key := ds.map Sum.inl
theorem kyL_inj : ∀ {ds es : List Int}, kyL ds = kyL es → ds = es
  | [], [], _ => rfl
  | [], _ :: _, h => by cases h
  | _ :: _, [], h => by cases h
  | a :: r, b :: q, h => by
    injection h with h1 h2
    injection h1 with h1
    rw [h1, kyL_inj h2]
theorem kyL_kV (ds : List Int) : (kyL ds).map kV = ds.map V.int := by
  unfold kyL
  rw [List.map_map]; rfl
/-- the first place below n at which f is d -/
def fstAt (f : Nat → List Int) (d : List Int) : Nat → Option Nat
  | 0 => none
  | n + 1 => match fstAt f d n with
    | some i => some i
    | none => if f n = d then some n else none
/-- a dict holds for each list its first place below n -/
structure PlL (kvs : List (List Key × V)) (f : Nat → List Int) (n : Nat) : Prop where
  len : kvs.length ≤ n
  val : ∀ d, valV kvs (kyL d) = (fstAt f d n).map fun (i : Nat) => V.int (i : Int)
end Tw
namespace Tw
open PySem PySem.Spec PyProof.Rows L2
/-! ### a dial above which the total is 0: its round is as long as the one below -/
section
variable {p : Int} {M : Mach} {st : Int}
theorem Per.stay (hP : IsP p) {n L : Nat} (h : Per p M st n L) (hT : sumT p M st n L % p = 0) : Per p M st (n + 1) L := by
  refine ⟨h.pos, ?_, fun i h0 h1 e => ?_⟩
  · rw [itB_up hP, h.back, hT, zeros_up]
  · rw [itB_up hP, zeros_up] at e
    exact h.fst i h0 h1 (snoc_inj e).1
/-- .. and it does not come to the setting with 1 at that dial -/
theorem Per.apart (hP : IsP p) {n L : Nat} (h : Per p M st n L) (hT : sumT p M st n L % p = 0) : ∀ i, i < L → itB p M st (n + 1) i ≠ List.replicate n 0 ++ [1] := fun i hi e => by
  rw [itB_up hP] at e
  obtain ⟨e1, e2⟩ := snoc_inj e
  rcases Nat.eq_zero_or_pos i with q | q
  · subst q
    have z : sumT p M st n 0 % p = 0 := by
      show (0 : Int) % p = 0
      exact Int.zero_emod p
    rw [z] at e2
    exact absurd e2 (by decide)
  · exact h.fst i q hi e1
/-- all totals below n differ from 0: the round of n dials -/
theorem Rnd.of (hP : IsP p) (hO : OkM p M.length M) (z0 : 0 ≤ st) (z1 : st < (M.length : Int)) : ∀ n, (∀ i, i < n → totN p M st i ≠ 0) → Rnd p M st n (p.toNat ^ n)
  | 0, _ => Rnd.zero z0 z1
  | n + 1, h => by
    have r := Rnd.of hP hO z0 z1 n fun i hi => h i (by omega)
    have q := r.next hP hO (by rw [r.tot hP]; exact h n (Nat.lt_succ_self n))
    rw [Nat.pow_succ, Nat.mul_comm]
    exact q
end
end Tw
namespace Tw
open PySem PySem.Spec PyProof.Rows L2
/-! ### a tuple of ints in a list of such -/
def tuD (ds : List Int) : PyData := .tuple (ds.map PyData.int)
theorem eqv_tu (k c : List Int) : PyData.eqv (tuD k) (tuD c) = decide (k = c) := by
  unfold tuD
  rw [PyData.eqv]
  exact eqv_ints2 k c
theorem lay_tu (k : List Int) : PyData.canLay0 (tuD k) = true := by
  unfold tuD
  rw [PyData.canLay0, lay_ints]
theorem depth_tu (k : List Int) : PyData.depth (tuD k) ≤ 1 := by
  unfold tuD
  rw [PyData.depth, depth_ints]
  omega
theorem lay_tus : ∀ ks : List (List Int), PyData.canLayAll0 (ks.map tuD) = true
  | [] => by simp [PyData.canLayAll0]
  | d :: r => by rw [List.map_cons, PyData.canLayAll0, lay_tus r, lay_tu]; rfl
theorem depth_tus : ∀ ks : List (List Int), PyData.depthAll (ks.map tuD) ≤ 1
  | [] => by simp [PyData.depthAll]
  | d :: r => by
    rw [List.map_cons, PyData.depthAll]
    have := depth_tus r
    have := depth_tu d
    omega
def RowsT (H : Hp) (xs : List V) (ks : List (List Int)) : Prop := xs.length = ks.length ∧ ∀ (i : Nat) v k, xs[i]? = some v → ks[i]? = some k → ∃ a, v = .ref a ∧ H a = some (.tup (k.map V.int))
theorem dp_tus {K : PySem.W.Frag} {H : Hp} : ∀ (xs : List V) (ks : List (List Int)), RowsT H xs ks → DpAll K H xs (ks.map tuD)
  | [], [], _ => .nil
  | [], s :: r, h => by cases h.1
  | x :: xs, [], h => by cases h.1
  | x :: xs, s :: r, h => by
    obtain ⟨a, rfl, ha⟩ := h.2 0 x s rfl rfl
    exact .cons (.tup (SqT.of ha) (dp_ints s)) (dp_tus xs r ⟨Nat.succ.inj h.1, fun i y t h1 h2 => h.2 (i + 1) y t h1 h2⟩)
end Tw
namespace Tw
open PySem PySem.Spec PyProof.Rows L2
/-! ### totals as weights brought down, dial by dial (for totals of products, inverses and least turners) -/
def itG (p : Int) (M : Mach) : Nat → (Int → Int) → Int → Int
  | 0, g => g
  | n + 1, g => itG p M n (nxG p M g)
section
variable {p : Int} {M N : Mach} {st : Int}
theorem prC_it (hP : IsP p) (hO : OkM p M.length M) (z0 : 0 ≤ st) (z1 : st < (M.length : Int)) : ∀ n g, prC (itC p M st n) g % p = itG p M n g st % p
  | 0, g => by
    show prC (firstC M st) g % p = g st % p
    rw [prC_first z0 z1]
  | n + 1, g => by
    show prC (nextC p M (itC p M st n)) g % p = itG p M n (nxG p M g) st % p
    rw [prC_next hO (itC_ok hP M st n), prC_it hP hO z0 z1 n]
theorem tot_it (hP : IsP p) (hO : OkM p M.length M) (z0 : 0 ≤ st) (z1 : st < (M.length : Int)) (n : Nat) : totN p M st n = itG p M n (turnM M) st % p := by
  unfold totN
  rw [tot_wt (itC_ok hP M st n), prC_it hP hO z0 z1]
/-- the state to which a state goes is one -/
theorem go_in (hO : OkM p M.length M) {q : Int} (q0 : 0 ≤ q) (q1 : q < (M.length : Int)) {x : Nat} (hx : (x : Int) < p) : 0 ≤ goM M q (x : Int) ∧ goM M q (x : Int) < (M.length : Int) := by
  have h := runM_in hO rfl [(x : Int)] q0 q1 (fun d hd => by rw [List.mem_singleton.mp hd]; exact ⟨Int.natCast_nonneg x, hx⟩)
  exact h
theorem nxG_mod (hP : IsP p) (hO : OkM p M.length M) {g k : Int → Int} (h : ∀ q, 0 ≤ q → q < (M.length : Int) → g q % p = k q % p) {q : Int} (q0 : 0 ≤ q) (q1 : q < (M.length : Int)) : nxG p M g q % p = nxG p M k q % p := by
  have p2 := hP.two
  unfold nxG
  have key : ∀ n : Nat, (n : Int) ≤ p → sm (fun x => g (goM M q (x : Int))) n % p = sm (fun x => k (goM M q (x : Int))) n % p := fun n => by
    induction n with
    | zero => intro _; rfl
    | succ n ih =>
      intro hn
      have i := go_in hO q0 q1 (x := n) (by omega)
      rw [sm, sm, Int.add_emod, ih (by omega), h _ i.1 i.2, ← Int.add_emod]
  exact key _ (by omega)
theorem itG_mod (hP : IsP p) (hO : OkM p M.length M) : ∀ (n : Nat) {g k : Int → Int}, (∀ q, 0 ≤ q → q < (M.length : Int) → g q % p = k q % p) → ∀ q, 0 ≤ q → q < (M.length : Int) → itG p M n g q % p = itG p M n k q % p
  | 0, g, k, h, q, q0, q1 => h q q0 q1
  | n + 1, g, k, h, q, q0, q1 => itG_mod hP hO n (fun r r0 r1 => nxG_mod hP hO h r0 r1) q q0 q1
theorem nxG_add (g k : Int → Int) (q : Int) : nxG p M (fun q => g q + k q) q = nxG p M g q + nxG p M k q := by
  unfold nxG
  exact sm_plus _ _ _
theorem itG_add : ∀ (n : Nat) (g k : Int → Int) (q : Int), itG p M n (fun q => g q + k q) q = itG p M n g q + itG p M n k q
  | 0, g, k, q => rfl
  | n + 1, g, k, q => by
    show itG p M n (nxG p M fun q => g q + k q) q = itG p M n (nxG p M g) q + itG p M n (nxG p M k) q
    rw [show (nxG p M fun q => g q + k q) = (fun q => nxG p M g q + nxG p M k q) from funext fun q => nxG_add g k q]
    exact itG_add n _ _ q
/-- a map of the states that keeps the sums over the figures -/
theorem itG_map (hP : IsP p) (hO : OkM p M.length M) {h : Int → Int} (hh : ∀ q, 0 ≤ q → q < (M.length : Int) → ∀ g, nxG p M (fun r => g (h r)) q % p = nxG p N g (h q) % p) : ∀ (n : Nat) (g : Int → Int) q, 0 ≤ q → q < (M.length : Int) → itG p M n (fun r => g (h r)) q % p = itG p N n g (h q) % p
  | 0, g, q, q0, q1 => rfl
  | n + 1, g, q, q0, q1 => by
    show itG p M n (nxG p M fun r => g (h r)) q % p = itG p N n (nxG p N g) (h q) % p
    rw [itG_mod hP hO n (k := fun r => nxG p N g (h r)) (fun r r0 r1 => hh r r0 r1 g) q q0 q1]
    exact itG_map hP hO hh n (nxG p N g) q q0 q1
end
end Tw
namespace Tw
open PySem PySem.Spec PyProof.Rows L2
/-! ### what the top leaves, read off once: the part of the heap that the law needs, its defs and its facts -/
abbrev Fg := PySem.W.Frag
def vAd : Value → List Addr
  | .ref a => [a]
  | _ => []
/-- a def's code, its keyword defaults and its cells; a class's names -/
def rfDef (o : Obj) : List Addr := match o.data with
  | .func fd => vAd fd.code ++ (vAd fd.kwdefaults ++ fd.closure.map (·.2))
  | .cls cd => [cd.ns]
  | _ => []
def rfNs (o : Obj) : List Addr := match o.data with
  | .dict es _ => (es.toList.map fun e => vAd e.val).flatten
  | _ => []
/-- what stands in a property, a static method, a class method -/
def rfRec (o : Obj) : List Addr := match o.data with
  | .fields vs => if o.cls == .type "property" || o.cls == .type "staticmethod" || o.cls == .type "classmethod" then (vs.toList.map vAd).flatten else []
  | _ => []
def nxtA (g : Addr → Option Obj) (rf : Obj → List Addr) (as : List Addr) : List Addr := (as.map fun a => match g a with
  | some o => rf o
  | none => []).flatten
def adrH (ns : List Str) (g : Addr → Option Obj) : List Addr :=
  (fun n0 => (fun n1 => (fun n2 => (fun n3 => n0 ++ (n2 ++ (n1 ++ (nxtA g rfDef n2 ++ (n3 ++ (nxtA g rfDef n3 ++ [mainGlobals, cStatics])))))) (nxtA g rfRec n2)) (nxtA g rfNs n1)) (nxtA g rfDef n0)) (ns.map (He.ga (He.frG g [mainGlobals])))
/-- a def as it stands in the text, and where -/
structure FdO where
  at_ : Fg → Addr
  name : Str
  qual : Str
  params : Arguments
  body : List Stmt
  scope : Scope
  clo : List Str
  kwd : List (Str × V)
abbrev FvO := Option (Str × Str × Arguments × FuncBody × Scope × Addr × List Str × Addr)
def fvO (K : Fg) (a : Addr) : FvO := match K.lookup a with
  | some ⟨_, _, .func fd, _⟩ => some (fd.name, fd.qualname, fd.params, fd.body, fd.scope, fd.globals, fd.closure.map (·.1), fd.builtins)
  | _ => none
def FdO.val (d : FdO) : FvO := some (d.name, d.qual, d.params, .stmts d.body, d.scope, mainGlobals, d.clo, builtinsNs)
def FdO.ok (K : Fg) (d : FdO) : Bool := PySem.W.keepIn K (.ref (d.at_ K)) && match K.lookup (d.at_ K) with
  | some ⟨_, _, .func fd, _⟩ => PySem.W.codeIn K fd.code d.qual && (He.dflB K fd.defaults [] && He.kwdB K fd.kwdefaults d.kwd)
  | _ => false
abbrev AlO := List FvO × Bool
def obO (fs : List FdO) (ex : Fg → List Bool) (K : Fg) : AlO := (fs.map fun d => fvO K (d.at_ K), fs.all (FdO.ok K) && (ex K).all id)
def SaysO (fs : List FdO) (ex : Fg → List Bool) (K : Fg) : Prop := obO fs ex K = (fs.map FdO.val, true)
def obG (ns : List Str) (fs : List FdO) (ex : Fg → List Bool) (g : Addr → Option Obj) : AlO := obO fs ex (He.frG g (adrH ns g))
def hookO (ns : List Str) (fs : List FdO) (ex : Fg → List Bool) : PySem.W.Hook where
  α := AlO
  obs := fun s => obG ns fs ex s.heap.get?
  val := fun _ => (fs.map FdO.val, true)
  says := fun _ h => ∃ K : Fg, K.In h ∧ SaysO fs ex K
  of := fun _ s e => ⟨_, He.frG_in, e⟩
  keeps := fun _ h h' ⟨K, k, c⟩ e => ⟨K, fun a o z => e a o (k a o z), c⟩
theorem obG_eq (ns : List Str) (fs : List FdO) (ex : Fg → List Bool) (s : PySem.W.SharedT) : obG ns fs ex (HandSHeadRun.getT s) = (hookO ns fs ex).obs s.abs := by
  rw [show HandSHeadRun.getT s = s.abs.heap.get? from funext (HandSHeadRun.getT_eq s)]
  rfl
theorem says_ex {fs : List FdO} {ex : Fg → List Bool} {K : Fg} (c : SaysO fs ex K) (i : Nat) {b : Bool} (h : (ex K)[i]? = some b) : b = true := by
  have e : (fs.all (FdO.ok K) && (ex K).all id) = true := congrArg Prod.snd c
  rw [Bool.and_eq_true_iff] at e
  exact List.all_eq_true.mp e.2 b (List.mem_of_getElem? h)
theorem says_fd {fs : List FdO} {ex : Fg → List Bool} {K : Fg} (c : SaysO fs ex K) (i : Nat) {d : FdO} (h : fs[i]? = some d) :
    ∃ fd oc od osl, K.lookup (d.at_ K) = some ⟨oc, od, .func fd, osl⟩ ∧ PySem.W.keepIn K (.ref (d.at_ K)) = true ∧ PySem.W.codeIn K fd.code d.qual = true ∧ DflV K fd.defaults [] ∧ KwdV K fd.kwdefaults d.kwd ∧ fd.defaults = .none ∧
      fd.name = d.name ∧ fd.qualname = d.qual ∧ fd.params = d.params ∧ fd.body = .stmts d.body ∧ fd.scope = d.scope ∧ fd.globals = mainGlobals ∧ fd.closure.map (·.1) = d.clo ∧ fd.builtins = builtinsNs := by
  have e1 : (fs.map fun d => fvO K (d.at_ K)) = fs.map FdO.val := congrArg Prod.fst c
  have e2 : (fs.all (FdO.ok K) && (ex K).all id) = true := congrArg Prod.snd c
  rw [Bool.and_eq_true_iff] at e2
  have e3 : FdO.ok K d = true := List.all_eq_true.mp e2.1 d (List.mem_of_getElem? h)
  have e4 : (fs.map fun d => fvO K (d.at_ K))[i]? = (fs.map FdO.val)[i]? := by rw [e1]
  rw [List.getElem?_map, List.getElem?_map, h] at e4
  have e5 : fvO K (d.at_ K) = FdO.val d := Option.some.inj e4
  unfold FdO.ok at e3
  rw [Bool.and_eq_true_iff] at e3
  obtain ⟨hk, e3⟩ := e3
  unfold fvO FdO.val at e5
  split at e5
  · rename_i oc od fd osl hl
    rw [hl] at e3
    dsimp only at e3
    rw [Bool.and_eq_true_iff, Bool.and_eq_true_iff] at e3
    have e6 := Option.some.inj e5
    simp only [Prod.mk.injEq] at e6
    obtain ⟨a1, a2, a3, a4, a5, a6, a7, a8⟩ := e6
    refine ⟨fd, oc, od, osl, hl, hk, e3.1, He.dflB_ok e3.2.1, He.kwdB_ok e3.2.2, ?_, a1, a2, a3, a4, a5, a6, a7, a8⟩
    have z := e3.2.1
    unfold He.dflB at z
    dsimp only at z
    split at z
    · rename_i hz; exact hz
    · cases z
  · cases e5
theorem says_fun {fs : List FdO} {ex : Fg → List Bool} {K : Fg} (c : SaysO fs ex K) (i : Nat) {at_ : Fg → Addr} {x qual : Str} {st : Stmt} {kwd : List (Str × V)} (h : fs[i]? = some ⟨at_, x, qual, defArgs st, defBody st, defScope st, [], kwd⟩) : ∃ fd, Fun K x qual st (at_ K) fd := by
  obtain ⟨fd, oc, od, osl, h1, h2, h3, _, _, h6, a1, a2, a3, a4, a5, a6, a7, a8⟩ := says_fd c i h
  obtain ⟨name, qualname, params, body, scope, globals, closure, defaults, kwdefaults, doc, pm, an, code, ct, bi⟩ := fd
  dsimp only at a1 a2 a3 a4 a5 a6 a7 a8 h6 h3
  have a7' : closure = [] := List.map_eq_nil_iff.mp a7
  subst a1 a2 a3 a4 a5 a6 a7' a8 h6
  exact ⟨_, fun_mk h1 h3 h2⟩
theorem says_funD {fs : List FdO} {ex : Fg → List Bool} {K : Fg} (c : SaysO fs ex K) (i : Nat) {at_ : Fg → Addr} {x qual : Str} {pr : Arguments} {bo : List Stmt} {sc : Scope} {kwd : List (Str × V)} (h : fs[i]? = some ⟨at_, x, qual, pr, bo, sc, [], kwd⟩) : ∃ fd, FunD K x qual pr bo sc [] kwd (at_ K) fd := by
  obtain ⟨fd, oc, od, osl, h1, h2, h3, h4, h5, h6, a1, a2, a3, a4, a5, a6, a7, a8⟩ := says_fd c i h
  obtain ⟨name, qualname, params, body, scope, globals, closure, defaults, kwdefaults, doc, pm, an, code, ct, bi⟩ := fd
  dsimp only at a1 a2 a3 a4 a5 a6 a7 a8 h6 h3 h4 h5
  have a7' : closure = [] := List.map_eq_nil_iff.mp a7
  subst a1 a2 a3 a4 a5 a6 a7' a8 h6
  exact ⟨_, ⟨oc, od, _, _, _, _, _, _, _, _, rfl, h1, h3, h4, h5⟩, h2⟩
/-! addresses and facts by names -/
def paA (K : Fg) (T : String) (q : Addr) : Addr := match PySem.W.recIn K q T with
  | some (.ref f :: _) => f
  | _ => 0
def recB (K : Fg) (T : String) (q : Addr) : Bool := match PySem.W.recIn K q T with
  | some (.ref _ :: _) => true
  | _ => false
theorem recB_ok {K : Fg} {T : String} {q : Addr} (h : recB K T q = true) : ∃ r, PySem.W.recIn K q T = some (.ref (paA K T q) :: r) := by
  unfold recB at h
  unfold paA
  split at h
  · rename_i f r e
    rw [e]; exact ⟨r, rfl⟩
  · cases h
def intB (K : Fg) (x : Str) (i : Int) : Bool := match PySem.W.nsIn K mainGlobals x with
  | some (some (.int j _)) => decide (j = i)
  | _ => false
theorem intB_ok {K : Fg} {x : Str} {i : Int} (h : intB K x i = true) : ∃ t, PySem.W.nsIn K mainGlobals x = some (some (.int i t)) := by
  unfold intB at h
  split at h
  · rename_i j t e
    rw [e, of_decide_eq_true h]; exact ⟨t, rfl⟩
  · cases h
def conB (K : Fg) (C : Addr) (x : Str) (i : Int) : Bool := match PySem.W.findCls K (.ref C) (.type "type") x with
  | some (.val (.int j _)) => decide (j = i)
  | _ => false
theorem conB_ok {K : Fg} {C : Addr} {x : Str} {i : Int} (h : conB K C x i = true) : ∃ t, PySem.W.findCls K (.ref C) (.type "type") x = some (.val (.int i t)) := by
  unfold conB at h
  split at h
  · rename_i j t e
    rw [e, of_decide_eq_true h]; exact ⟨t, rfl⟩
  · cases h
def tup4 (K : Fg) (a : Addr) (i j k l : Int) : Bool := match K.lookup a with
  | some ⟨c, _, .seq xs _, _⟩ => decide (c = .type "tuple") && match xs with
    | ⟨[.int i1 _, .int j1 _, .int k1 _, .int l1 _]⟩ => decide (i1 = i) && (decide (j1 = j) && (decide (k1 = k) && decide (l1 = l)))
    | _ => false
  | _ => false
theorem tup4_ok {K : Fg} {a : Addr} {i j k l : Int} (h : tup4 K a i j k l = true) : ∃ d n s t1 t2 t3 t4, K.lookup a = some ⟨.type "tuple", d, .seq #[.int i t1, .int j t2, .int k t3, .int l t4] n, s⟩ := by
  unfold tup4 at h
  split at h
  · rename_i c d xs n s e
    rw [Bool.and_eq_true_iff] at h
    obtain ⟨h1, h2⟩ := h
    split at h2
    · rename_i i1 t1 j1 t2 k1 t3 l1 t4
      rw [Bool.and_eq_true_iff, Bool.and_eq_true_iff, Bool.and_eq_true_iff] at h2
      rw [e, of_decide_eq_true h1, of_decide_eq_true h2.1, of_decide_eq_true h2.2.1, of_decide_eq_true h2.2.2.1, of_decide_eq_true h2.2.2.2]
      exact ⟨d, n, s, t1, t2, t3, t4, rfl⟩
    · cases h2
  · cases h
/-! a method with super() -/
def ccA (K : Fg) (f : Addr) : Addr := match K.lookup f with
  | some ⟨_, _, .func fd, _⟩ => match fd.closure with
    | (_, c) :: _ => c
    | _ => 0
  | _ => 0
def cellB (K : Fg) (c C : Addr) : Bool := match K.lookup c with
  | some ⟨_, _, .cell (some v), _⟩ => decide (v = .ref C)
  | _ => false
theorem cellB_ok {K : Fg} {c C : Addr} (h : cellB K c C = true) : ∃ (cl : Value) (cld : Option Addr) (csl : Array (Option Value)), K.lookup c = some ⟨cl, cld, .cell (some (.ref C)), csl⟩ := by
  unfold cellB at h
  split at h
  · rename_i cl d v s e
    rw [e, of_decide_eq_true h]; exact ⟨_, _, _, rfl⟩
  · cases h
def cdA (K : Fg) (f : Addr) : Addr := match K.lookup f with
  | some ⟨_, _, .func fd, _⟩ => match fd.code with
    | .ref c => c
    | _ => 0
  | _ => 0
def strAt (o : Option Value) (file : Str) : Bool := match o with
  | some (.str z _) => file == z
  | _ => false
def cdB (K : Fg) (f : Addr) (file : Str) : Bool := match K.lookup f with
  | some ⟨_, _, .func fd, _⟩ => match fd.code with
    | .ref c => match K.lookup c with
      | some ⟨_, _, .fields vs, _⟩ => strAt vs[2]? file
      | _ => false
    | _ => false
  | _ => false
theorem strAt_ok {o : Option Value} {file : Str} (h : strAt o file = true) : ∃ (z : Str) (tf : Tok), o = some (.str z tf) ∧ (file == z) = true := by
  unfold strAt at h
  split at h
  · rename_i z tf
    exact ⟨z, tf, rfl, h⟩
  · cases h
theorem cdB_ok {K : Fg} {f : Addr} {file : Str} (h : cdB K f file = true) : (∃ oc od fd osl, K.lookup f = some ⟨oc, od, .func fd, osl⟩ ∧ fd.code = .ref (cdA K f)) ∧ ∃ (ccl : Value) (cdd : Option Addr) (vs : Array Value) (ccs : Array (Option Value)) (z : Str) (tf : Tok), K.lookup (cdA K f) = some ⟨ccl, cdd, .fields vs, ccs⟩ ∧ vs[2]? = some (.str z tf) ∧ (file == z) = true := by
  unfold cdB at h
  split at h
  · rename_i oc od fd osl e
    split at h
    · rename_i c ec
      have ea : cdA K f = c := by
        unfold cdA
        rw [e]
        dsimp only
        rw [ec]
      rw [ea]
      split at h
      · rename_i ccl cdd vs ccs e2
        obtain ⟨z, tf, e3, e4⟩ := strAt_ok h
        exact ⟨⟨oc, od, fd, osl, e, ec⟩, ccl, cdd, vs, ccs, z, tf, e2, e3, e4⟩
      · cases h
    · cases h
  · cases h
theorem says_sup {fs : List FdO} {ex : Fg → List Bool} {K : Fg} (c : SaysO fs ex K) (i : Nat) {at_ : Fg → Addr} {x qual : Str} {st : Stmt} (h : fs[i]? = some ⟨at_, x, qual, defArgs st, defBody st, defScope st, ["__class__"], []⟩) {file : Str} (hc : cdB K (at_ K) file = true) :
    ∃ kV doc pm an ct, (∃ oc od osl, K.lookup (at_ K) = some ⟨oc, od, .func (PySem.W.fnX x qual (defArgs st) (defBody st) (defScope st) [("__class__", ccA K (at_ K))] .none kV doc pm an (.ref (cdA K (at_ K))) ct), osl⟩) ∧ PySem.W.keepIn K (.ref (at_ K)) = true ∧ PySem.W.codeIn K (.ref (cdA K (at_ K))) qual = true := by
  obtain ⟨fd, oc, od, osl, h1, h2, h3, h4, h5, h6, a1, a2, a3, a4, a5, a6, a7, a8⟩ := says_fd c i h
  obtain ⟨⟨oc', od', fd', osl', l1, l2⟩, _⟩ := cdB_ok hc
  dsimp only at h1
  rw [h1] at l1
  cases l1
  obtain ⟨name, qualname, params, body, scope, globals, closure, defaults, kwdefaults, doc, pm, an, code, ct, bi⟩ := fd
  dsimp only at a1 a2 a3 a4 a5 a6 a7 a8 h6 h3 h4 h5 l2
  obtain ⟨cc, rfl⟩ : ∃ cc, closure = [(("__class__" : Str), cc)] := by
    match closure, a7 with
    | [(n, cc)], a7 =>
      have : n = ("__class__" : Str) := by injection a7
      exact ⟨cc, by rw [this]⟩
  subst a1 a2 a3 a4 a5 a6 a8 h6 l2
  have ec : ccA K (at_ K) = cc := by
    unfold ccA
    rw [h1]
  rw [ec]
  exact ⟨_, _, _, _, _, ⟨_, _, _, h1⟩, h2, h3⟩
/-! a def's row as the ends want it -/
theorem says_lk {fs : List FdO} {ex : Fg → List Bool} {K : Fg} (c : SaysO fs ex K) (i : Nat) {at_ : Fg → Addr} {x qual : Str} {st : Stmt} {kwd : List (Str × V)} (h : fs[i]? = some ⟨at_, x, qual, defArgs st, defBody st, defScope st, [], kwd⟩) :
    ∃ oc od sl kV dc pm an cd ct, K.lookup (at_ K) = some ⟨oc, od, .func (PySem.W.fnOf x qual (defArgs st) (defBody st) (defScope st) .none kV dc pm an cd ct), sl⟩ ∧ PySem.W.codeIn K cd qual = true ∧ PySem.W.keepIn K (.ref (at_ K)) = true := by
  obtain ⟨fd, F⟩ := says_fun c i h
  obtain ⟨oc, od, kV, dc, pm, an, cd, ct, sl, e, l, q⟩ := F.ex
  subst e
  exact ⟨oc, od, sl, kV, dc, pm, an, cd, ct, l, q, F.kp⟩
theorem says_lkw {fs : List FdO} {ex : Fg → List Bool} {K : Fg} (c : SaysO fs ex K) (i : Nat) {at_ : Fg → Addr} {x qual n : Str} {st : Stmt} {z : Int} (h : fs[i]? = some ⟨at_, x, qual, defArgs st, defBody st, defScope st, [], [(n, .int z)]⟩) :
    ∃ oc od sl dI dc pm an cd ct t, K.lookup (at_ K) = some ⟨oc, od, .func (PySem.W.fnOf x qual (defArgs st) (defBody st) (defScope st) .none (.ref dI) dc pm an cd ct), sl⟩ ∧ PySem.W.codeIn K cd qual = true ∧ PySem.W.keepIn K (.ref (at_ K)) = true ∧ PySem.W.nsIn K dI n = some (some (.int z t)) := by
  obtain ⟨fd, F⟩ := says_funD c i h
  obtain ⟨oc, od, dV, kV, dc, pm, an, cd, ct, sl, e, l, q, hD, hK⟩ := F.ex
  subst e
  rcases hD with ⟨_, rfl⟩ | ⟨e, _⟩
  · rcases hK with e | ⟨D, rfl, hq⟩
    · cases e
    · obtain ⟨u, hu, ru⟩ := hq _ (List.mem_singleton.mpr rfl)
      obtain ⟨t, rfl⟩ := ru
      exact ⟨oc, od, sl, D, dc, pm, an, cd, ct, t, l, q, F.kp, hu⟩
  · exact absurd rfl e
end Tw
namespace Tw
open PySem PySem.Spec PyProof.Rows L2
/-! ### self.__class__.__name__ in an own exception -/
section
open PySem.W PySem.HandSPX
variable {prog : Program} {w : World} {A : Around} {E : Value → Shared → Prop} {s : Shared} {K : PySem.W.Frag} {x C : Addr} {ox : Obj} {od : Option Obj} {expr : Bool} {Q : Value → Shared → Prop}
theorem err_class {gt : Option Value} (X : K.In s.heap) (I : PySem.W.InstAt s.heap x ox C od) (hga : findIn K (.ref C) "__getattribute__" = some (some (.builtin "BaseException.__getattribute__"))) (hgt : findIn K (.ref C) "__getattr__" = some gt)
    (hsub : subIn K (.ref C) (.type "BaseException") = some true) (hf : findObj K C od "__class__" = some (.bind (.builtin "getset_descriptor.__get__") (.builtin "object.__class__"))) (hm : mroIn K C (.type "object") = some true)
    (h : Q (.ref C) { s with toks := s.toks + 1 }) : wpAny (model prog w) A (getAttr (.ref x) "__class__" expr) Q E s := by
  obtain ⟨hp, g, d, t, os⟩ := s
  have T0 := I.type (M := model prog w)
  have T1 := looks_findIn (M := model prog w) X hga
  have T2 := looks_findIn (M := model prog w) X hgt
  have T3 := looks_find (M := model prog w) X I hf
  have isB : Looks (model prog w) hp (isInstance (.ref x) (.type "BaseException")) true := T0.andThen (looks_subIn X hsub)
  have n0 : (expr && onTheHeap (Value.builtin "BaseException.__getattribute__")) = false := by cases expr <;> rfl
  have n2 : (Value.builtin "BaseException.__getattribute__" == Value.builtin "object.__getattribute__") = false := by decide +kernel
  have n1 : (onTheHeap (Value.ref C) && Value.builtin "BaseException.__getattribute__" == Value.builtin "object.__getattribute__") = false := by rw [n2]; rfl
  unfold getAttr getAttrBy
  refine wpAny_bind (wpAny_mkText (wpAny_holding (wpAny_bind (T0.at (wpAny_bind (T1.at ?_))))))
  show wpAny _ _ (if (onTheHeap (Value.ref C) && Value.builtin "BaseException.__getattribute__" == Value.builtin "object.__getattribute__") = true then _ else _) _ _ _
  rw [n1, if_neg Bool.false_ne_true]
  unfold getAttrByItsOwn hookBefore
  refine wpAny_bind ?_
  rw [if_pos (show onTheHeap (Value.ref C) = true from rfl)]
  refine T2.at ?_
  refine wpAny_bind (wpAny_attempt (wpAny_holding ?_))
  unfold callGetattribute
  rw [n0, if_neg Bool.false_ne_true]
  unfold boundAndCalled
  rw [PySem.F.excAttr_ValueError.ga.bind (.ref x)]
  refine wpAny_bind (wpAny_pure ?_)
  show wpAny _ _ (call (.builtin "BaseException.__getattribute__") [.ref x, .str "__class__" t]) _ _ _
  refine wpAny_call (codeAny_call_builtin PySem.F.excAttr_ValueError.ga.plain PySem.F.entry_bexc_ga ?_)
  refine @PySem.W.check_slot (model prog w) _ _ ⟨hp, g, d, t + 1, os⟩ "BaseException.__getattribute__" "BaseException" "__getattribute__" (.ref x) [.str "__class__" t] [] _ (by decide +kernel) (by decide +kernel) isB (PySem.F.args_bexc_ga (.ref x) (.str "__class__" t)) ?_
  unfold Builtin.«object.__getattribute__»
  refine wpAny_bind (wpAny_of_eq (a := ((Value.ref x : Value), [Value.str "__class__" t])) (by first | rfl | (simp only [slotArgs]; rfl)) ?_)
  refine wpAny_bind (wpAny_pure (wpAny_bind (T0.at (wpAny_bind (T3.at ?_)))))
  refine wpAny_bind (wpAny_holding (wpAny_call (class_get (s := ⟨hp, g, d, t + 1, os⟩) (ox := ox) (od := od) X I hm ?_)))
  refine wpAny_pure ?_
  show wpAny _ _ (handedOut (.ref C)) _ _ _
  rw [handedOut_of (show handedIn (.ref C) = true from rfl)]
  first | exact wpAny_pure h | exact wpAny_pure (wpAny_pure h)
end
section
open PySem.W PySem.Calls Builtin Builtin.ObjectAttr Builtin.Getset_descriptor
variable {prog : Program} {w : World} {A : Around} {E : Value → Shared → Prop} {s : Shared} {K : PySem.W.Frag} {R : Result → Shared → Prop} {C : Addr} {o : Obj} {nm : Str} {tn : Tok}
/-- type.__name__ of an own class whose name was kept when it was made -/
theorem own_name_get {tp : Value} (ho : s.heap.get? C = some o) (hc : o.cls = .type "type") (hs : o.slots[2]? = some (some (.str nm tn))) (hi : Looks (model prog w) s.heap (isInstance (.ref C) (.type "type")) true)
    (h : R (.ok (.ret (.str nm tn))) s) :
    codeAny (model prog w) A (.call (.builtin "getset_descriptor.__get__") ⟨[.builtin "type.__name__", .ref C, tp], []⟩) R s := by
  obtain ⟨hh, g, dr, t, os⟩ := s
  refine codeAny_call_builtin KF.slot_gs.plain KF.entry_gs (KF.slot_gs.check _ _ _ _ _ _ _ _ ktyn_type (KF.args_gs _ _ _) ?_)
  unfold Builtin.«getset_descriptor.__get__» descrGet
  rw [PySem.W.dga_obj]
  refine wpAny_bind (wpAny_pure ?_)
  unfold descrGetter descrCheckInstance descrNameAndClass
  simp only [ktyn_owner]
  repeat lk
  refine ⟨Code.quiet_builtin _ (by decide +kernel), codeAny_builtin ktyn_entry ?_⟩
  unfold Builtin.«type.__name__»
  show wpAny _ _ (keptObject (.ref C) 2 "__name__" _) _ _ _
  unfold keptObject PySem.slotAt
  dsimp only at ho
  refine wpAny_bind (wpAny_bind (wpAny_loadPart ho (wpAny_pure ?_)))
  rw [hs]
  exact wpAny_pure h
theorem own_name {expr : Bool} {Q : Value → Shared → Prop} (X : K.In s.heap) (hl : K.lookup C = some o) (hc : o.cls = .type "type") (hs : o.slots[2]? = some (some (.str nm tn))) (hC : PySem.W.nsIn K cStatics "thirdparty.any" = some none)
    (hty : PySem.W.typeIn K (.ref C) = some (.type "type")) (e : findCls K (.ref C) (.type "type") "__name__" = some (.get (.builtin "getset_descriptor.__get__") (.builtin "type.__name__") (.ref C) (.type "type")))
    (h : ∀ u, Q (.str nm tn) { s with toks := u }) : wpAny (model prog w) A (getAttr (.ref C) "__name__" expr) Q E s := by
  have T0 : Looks (model prog w) s.heap (typeOf (.ref C)) (.type "type") := looks_typeIn X hty
  have TI : Looks (model prog w) s.heap (isInstance (.ref C) (.type "type")) true := T0.andThen (looks_subIn X (show subIn K (.type "type") (.type "type") = some true by rfl))
  have TO : Looks (model prog w) s.heap (opaqueClassAbove (.ref C)) none := looks_opaque X hC
  refine cls_open X TO T0 type_tga (looks_hook X (r := none) (by rfl)) (by rfl) e ?_
  show wpAny _ _ (do ret (← holding [Value.builtin "type.__name__"] (call (.builtin "getset_descriptor.__get__") [.builtin "type.__name__", .ref C, .type "type"]))) _ _ _
  refine wpAny_bind (wpAny_holding (wpAny_call (own_name_get (s := { s with toks := s.toks + 1 }) (X _ _ hl) hc hs TI ?_)))
  exact wpAny_pure (handed_on rfl (h _))
end
/-- what the written part says of an own exception class whose instances tell their class's name -/
structure ErrN (K : PySem.W.Frag) (C : Addr) (nm : Str) : Prop where
  ec : ExcC K C
  ob : ∃ (o : Obj) (t : Tok), K.lookup C = some o ∧ o.cls = .type "type" ∧ o.slots[2]? = some (some (.str nm t))
  op : PySem.W.nsIn K cStatics "thirdparty.any" = some none
  ty : PySem.W.typeIn K (.ref C) = some (.type "type")
  fc : PySem.W.findCls K (.ref C) (.type "type") "__name__" = some (.get (.builtin "getset_descriptor.__get__") (.builtin "type.__name__") (.ref C) (.type "type"))
/-- .. of one that has no dict yet -/
def tErrN0 (K : PySem.W.Frag) (te : TE) : TE := fun σ H Q => te σ H fun x H1 => ∃ (a C : Addr) (nm : Str), x = .ref a ∧ H1 a = some (exo a C none) ∧ ErrN K C nm ∧ Q (.str nm) H1
theorem pe_errN0 {X : Cx} {e : Expr} {te : TE} {p1 p2 : Pos} (he : PE X e te) (hb : attributeBase e "__class__" X.env (eval e X.env) = eval e X.env := by rfl)
    (hb2 : attributeBase (.Attribute e "__class__" p1) "__name__" X.env (eval (.Attribute e "__class__" p1) X.env) = eval (.Attribute e "__class__" p1) X.env := by rfl) :
    PE X (.Attribute (.Attribute e "__class__" p1) "__name__" p2) (tErrN0 X.K te) := by
  refine ⟨fun pins s σ H Q I h => ?_⟩
  refine attr_of hb2 (attr_of hb (thn (he.run pins s σ H _ I h) fun u s1 hh => ?_))
  obtain ⟨x, H1, I1, rx, a, C, nm, ex, ea, N, q⟩ := hh
  subst ex
  obtain rfl : u = Value.ref a := rx
  obtain ⟨t1, ho⟩ := exo_at I1.hok ea
  obtain ⟨o, t, hl, hc, hs⟩ := N.ob
  have J : PySem.W.InstAt s1.heap a _ C none := ⟨ho, rfl, rfl, trivial⟩
  have ff : PySem.W.findObj X.K C none "__class__" = some (.bind (.builtin "getset_descriptor.__get__") (.builtin "object.__class__")) :=
    PySem.W.findObj_dataN (by obtain ⟨cd, hc, _⟩ := PySem.W.any_some N.ec.hd; rw [hc]; rfl) N.ec.ha N.ec.hn N.ec.ht
  refine err_class I1.kIn J N.ec.hg N.ec.hk N.ec.hs ff N.ec.hm ?_
  exact own_name (I1.tok _).kIn hl hc hs N.op N.ty N.fc fun u => ⟨.str nm, H1, I1.tok _, ⟨t, rfl⟩, q⟩
end Tw
namespace Tw
open PySem PySem.Spec PyProof.Rows L2
/-! ### {x!r} of nested data: some text of a bounded length, whatever is under way -/
section
open Builtin Builtin.List
/-- repr(x) is some text of at most n signs; d: how deep it goes; h₀: what must stand -/
def RepN (prog : Program) (w : World) (h₀ : Heap) (d n : Nat) (x : Value) : Prop :=
  ∀ (base : Nat), base + n ≤ sizeLine → ∀ (A : Around) (E : Value → Shared → Prop) (s : Shared) (Q : Str → Shared → Prop), A.units + d < cLine → (∀ b o, h₀.get? b = some o → s.heap.get? b = some o) →
    (∀ (m : Str) (h' : Heap) (tk : Nat), m.length ≤ n → (∀ b o, s.heap.get? b = some o → h'.get? b = some o) → Q m { s with heap := h', toks := tk }) → wpAny (model prog w) A (pyReprUnder base x) Q E s
theorem RepN.mono {prog : Program} {w : World} {h₀ : Heap} {d d' n n' : Nat} {x : Value} (h : RepN prog w h₀ d n x) (hd : d ≤ d') (hn : n ≤ n') : RepN prog w h₀ d' n' x :=
  fun base hb A E s Q hu k hQ => h base (by omega) A E s Q (by omega) k fun m h' tk hm => hQ m h' tk (by omega)
/-- the signs of the items with their gaps -/
def cost (ns : List Nat) : Nat := (ns.map fun n => n + 2).sum
theorem cost_cons (n : Nat) (ns : List Nat) : cost (n :: ns) = n + 2 + cost ns := by simp [cost]
theorem cost_take_succ {ns : List Nat} {i n : Nat} (h : ns[i]? = some n) : cost (ns.take (i + 1)) = cost (ns.take i) + (n + 2) := by
  unfold cost
  rw [List.take_add_one, h, List.map_append, List.sum_append]
  simp
theorem cost_take_le (ns : List Nat) (i : Nat) : cost (ns.take i) ≤ cost ns := by
  have e : cost ns = cost (ns.take i) + cost (ns.drop i) := by
    unfold cost
    rw [← List.sum_append, ← List.map_append, List.take_append_drop]
  omega
theorem two_le_cost (ns : List Nat) : 2 * ns.length ≤ cost ns := by
  induction ns with
  | nil => exact Nat.zero_le _
  | cons n ns ih =>
    rw [cost_cons, List.length_cons]
    omega
theorem listText_le : ∀ ts : List Str, (listText ts).length ≤ piled ts + 2
  | [] => by decide +kernel
  | t :: r => by
    have h := textFrom_length_pos r 1 (("[" : Str) ++ (if (0 : Nat) > 0 then ", " else "" : String) ++ t) (Nat.succ_pos 0)
    have e : ((("[" : Str) ++ (if (0 : Nat) > 0 then ", " else "" : String) ++ t)).length = 1 + t.length := by
      rw [strLen_append, strLen_append]; rfl
    have hX : (listText (t :: r)).length = (textFrom 0 "[" (t :: r)).length + 1 := by
      show (textFrom 0 "[" (t :: r) ++ "]").length = _
      rw [strLen_append]; rfl
    have hY : (textFrom 0 "[" (t :: r)).length = (textFrom 1 (("[" : Str) ++ (if (0 : Nat) > 0 then ", " else "" : String) ++ t) r).length := rfl
    rw [hX, hY, h, e, piled_cons]; omega
theorem piled_snoc (ts : List Str) (t : Str) : piled (ts ++ [t]) = piled ts + (t.length + 2) := by
  rw [piled_append, piled_cons, piled_nil]
section
variable {prog : Program} {w : World} {A : Around} {R : Result → Shared → Prop}
theorem rep_loop {a P : Addr} (hne : a ≠ P) {items : Array Value} {ns : List Nat} {h₀ : Heap} {d base : Nat} (hu : A.units + (d + 1) < cLine) (hPf : h₀.get? P = none) (hlen : ns.length = items.size)
    (hT : ∀ (i : Nat) (x : Value), items[i]? = some x → ∃ n, ns[i]? = some n ∧ RepN prog w h₀ d n x) (hsz : base + (cost ns + 2) ≤ sizeLine) :
    ∀ (k i : Nat) (s : Shared) (oa : Obj) (na : Nat) (acc : Array Value) (c : Nat) (done : List (Str × Tok)), items.size - i = k → i ≤ items.size → (∀ b o, h₀.get? b = some o → s.heap.get? b = some o) →
    s.heap.get? a = some oa → oa.data = .seq items na →
    s.heap.get? P = some { cls := .type "list", dict := none, data := .seq acc c, slots := #[] } → acc.toList = strValues done → done.length = i → piled (done.map (·.1)) ≤ cost (ns.take i) →
    (∀ m h' u tk, m.length ≤ cost ns + 2 → (∀ b o, b ≠ P → s.heap.get? b = some o → h'.get? b = some o) → R (.ok (.ret (.str m u))) { s with heap := h', toks := tk }) →
    codeAny (model prog w) A (.builtin "list.__repr__.loop" ⟨[.ref a, rawInt i, .ref P, rawInt ((base + piled (done.map (·.1)) : Nat) : Int)], []⟩) R s := by
  have hl2 := two_le_cost ns
  intro k
  induction k with
  | zero =>
    intro i s oa na acc c done hk hi hk0 ha hda hP hacc hdl hdone hR
    have hin : i = items.size := by omega
    refine codeAny_builtin F.entry_list_repr_loop ?_
    show wpAny _ _ («list.__repr__.loop» ⟨[.ref a, .int i 0, .ref P, .int ((base + piled (done.map (·.1)) : Nat) : Int) 0], []⟩) _ _ s
    rw [repr_loop_tree]
    refine wpAny_bind (wpAny_listItems ha hda ?_)
    have hnone : items[(i : Int).toNat]? = none := by simp [hin]
    simp only [hnone]
    unfold reprEnd
    refine wpAny_bind (wpAny_listItems hP rfl ?_)
    rw [hacc, repr_fold]
    refine wpAny_bind (wpAny_pure ?_)
    have hc : cost (ns.take i) ≤ cost ns := cost_take_le ns i
    have ht := listText_le (done.map (·.1))
    refine wpAny_bind (wpAny_mkStr (wpAny_pure ?_) (show (listText (done.map (·.1))).length ≤ sizeLine by omega))
    exact hR (listText (done.map (·.1))) s.heap _ _ (by omega) (fun _ _ _ e => e)
  | succ k ih =>
    intro i s oa na acc c done hk hi hk0 ha hda hP hacc hdl hdone hR
    have hlt : i < items.size := by omega
    obtain ⟨n, hn, hrep⟩ := hT i items[i] (by simp [hlt])
    have hp1 := cost_take_succ hn
    have hp2 := cost_take_le ns (i + 1)
    refine codeAny_builtin F.entry_list_repr_loop ?_
    show wpAny _ _ («list.__repr__.loop» ⟨[.ref a, .int i 0, .ref P, .int ((base + piled (done.map (·.1)) : Nat) : Int) 0], []⟩) _ _ s
    rw [repr_loop_tree]
    refine wpAny_bind (wpAny_listItems ha hda ?_)
    have hsome : items[(i : Int).toNat]? = some items[i] := by simp [hlt]
    simp only [hsome]
    rw [Int.toNat_natCast]
    refine wpAny_bind (wpAny_holding (hrep (base + piled (done.map (·.1)) + 1) (by omega) _ _ _ _ (by rw [units_under_list_loop]; omega) hk0 fun t h' tk htl hkp => ?_))
    refine wpAny_bind (wpAny_mkStr ?_ (by omega))
    refine wpAny_bind ?_
    show wpAny _ _ (updateSeq P _) _ _ _
    have hasz : acc.size ≤ sizeLine := by
      have e1 : acc.toList.length = acc.size := by simp
      have e2 : (strValues done).length = done.length := by simp [strValues]
      rw [hacc] at e1; omega
    refine wpAny_updateSeq (hkp _ _ hP) rfl (wpAny_pure ⟨F.quiet_list_repr_loop _, ?_⟩) hasz
    have e1 : ((i : Int) + 1) = ((i + 1 : Nat) : Int) := by omega
    have e3 : (done ++ [(t, tk)]).map (·.1) = done.map (·.1) ++ [t] := by simp
    have e2 : base + piled (done.map (·.1)) + (t.length + 2) = base + piled ((done ++ [(t, tk)]).map (·.1)) := by rw [e3, piled_snoc]; omega
    rw [e1, e2]
    refine ih (i + 1) _ oa na (acc.push (.str t tk)) _ (done ++ [(t, tk)]) (by omega) hlt (fun b o e => (Heap.get?_update_other _ _ (fun h : P = b => by rw [← h, hPf] at e; cases e)).trans (hkp _ _ (hk0 _ _ e))) ((Heap.get?_update_other _ _ (fun h : P = a => hne h.symm)).trans (hkp _ _ ha)) hda
      (Heap.get?_update_self _ (hkp _ _ hP) rfl) (by simp [hacc, strValues]) (by simp [hdl]) (by rw [e3, piled_snoc]; omega) fun m h'' u tk' hm hh => ?_
    exact hR m h'' u tk' hm fun b o hb e => hh b o hb ((Heap.get?_update_other _ _ (fun h : P = b => hb h.symm)).trans (hkp _ _ e))
theorem rep_listAt {h₀ : Heap} {d : Nat} {a : Addr} {oa : Obj} {items : Array Value} {na : Nat} {ns : List Nat} {s : Shared} {base : Nat}
    (ha : h₀.get? a = some oa) (hda : oa.data = .seq items na) (hlen : ns.length = items.size) (hT : ∀ (i : Nat) (y : Value), items[i]? = some y → ∃ n, ns[i]? = some n ∧ RepN prog w h₀ d n y)
    (hu : A.units + (d + 1) < cLine) (hk0 : ∀ b o, h₀.get? b = some o → s.heap.get? b = some o) (hsz : base + (cost ns + 5) ≤ sizeLine)
    (hR : ∀ m h' u tk, m.length ≤ cost ns + 5 → (∀ b o, s.heap.get? b = some o → h'.get? b = some o) → R (.ok (.ret (.str m u))) { s with heap := h', toks := tk }) :
    wpAny (model prog w) A.in1 (Builtin.listReprAt base ⟨[.ref a], []⟩) (fun fin s' => match fin with | .done f => R (.ok f) s' | .again c' => c'.quiet = true ∧ codeAny (model prog w) A c' R s') (fun e s' => R (.error e) s') s := by
  have hPf : h₀.get? s.heap.objs.size = none := by
    cases e : h₀.get? s.heap.objs.size with
    | none => rfl
    | some o => exact absurd (Heap.lt_size (hk0 _ _ e)) (Nat.lt_irrefl _)
  unfold Builtin.listReprAt
  refine wpAny_bind (wpAny_of_eq (a := ((Value.ref a : Value), ([] : List Value))) (by first | rfl | (simp only [slotArgs]; rfl)) ?_)
  refine wpAny_bind (wpAny_listItems (hk0 _ _ ha) hda ?_)
  by_cases he : items.isEmpty = true
  · rw [if_pos he]
    refine wpAny_bind (wpAny_rule (wpAny_bind (wpAny_mkStr (wpAny_pure ?_) (by decide +kernel))))
    exact hR "[]" s.heap _ _ (Nat.le_trans (show ("[]" : Str).length ≤ 5 by decide +kernel) (Nat.le_add_left _ _)) (fun _ _ e => e)
  · rw [if_neg he]
    refine wpAny_bind (wpAny_stack_any fun st => ?_)
    dsimp only
    split
    · refine wpAny_bind (wpAny_rule (wpAny_bind (wpAny_mkStr (wpAny_pure ?_) (by decide +kernel))))
      exact hR "[...]" s.heap _ _ (Nat.le_trans (show ("[...]" : Str).length ≤ 5 by decide +kernel) (Nat.le_add_left _ _)) (fun _ _ e => e)
    · refine wpAny_bind (m := newList []) (wpAny_newObj_type ?_)
      refine wpAny_pure ⟨F.quiet_list_repr_loop _, ?_⟩
      refine rep_loop (P := s.heap.objs.size) (base := base) (Nat.ne_of_lt (Heap.lt_size (hk0 _ _ ha))) hu hPf hlen hT (by omega) _ 0 _ oa na #[] _ [] rfl (Nat.zero_le _)
        (fun b o e => Heap.get?_push_of_some _ (hk0 _ _ e)) (Heap.get?_push_of_some _ (hk0 _ _ ha)) hda (Heap.get?_push_size _ rfl) rfl rfl (by simp [piled, cost]) fun m h' u tk hm hk => ?_
      exact hR m h' u tk (by omega) fun b o e => hk b o (Nat.ne_of_lt (Heap.lt_size e)) (Heap.get?_push_of_some _ e)
/-! a tuple -/
theorem rep_tupFold {E : Value → Shared → Prop} {h₀ : Heap} {d : Nat} (hu : A.units + d < cLine) : ∀ (l : List Value) (ns : List Nat) (acc : Array Str) (n : Nat) (s : Shared) (Q : (Array Str × Nat) → Shared → Prop), ns.length = l.length → (∀ (i : Nat) (y : Value), l[i]? = some y → ∃ n, ns[i]? = some n ∧ RepN prog w h₀ d n y) →
    n + cost ns ≤ sizeLine → (∀ b o, h₀.get? b = some o → s.heap.get? b = some o) → (∀ (ts : List Str) (h' : Heap) (tk : Nat), ts.length = l.length → piled ts ≤ cost ns → (∀ b o, s.heap.get? b = some o → h'.get? b = some o) → Q ⟨acc ++ ts.toArray, n + piled ts⟩ { s with heap := h', toks := tk }) →
    wpAny (model prog w) A (forIn l (⟨acc, n⟩ : (Array Str × Nat)) tupBody) Q E s := by
  intro l
  induction l with
  | nil =>
    intro ns acc n s Q hl hT _ _ h
    have h0 := h [] s.heap s.toks rfl (Nat.zero_le _) fun _ _ e => e
    simp only [List.forIn_nil]
    exact wpAny_pure (by simpa [piled] using h0)
  | cons x l ih =>
    intro ns acc n s Q hl hT hn hk0 h
    cases ns with
    | nil => cases hl
    | cons n1 ns =>
      obtain ⟨n1', e1, hx⟩ := hT 0 x rfl
      obtain rfl : n1 = n1' := Option.some.inj e1
      rw [cost_cons] at hn
      rw [List.forIn_cons]
      refine wpAny_bind (wpAny_bind (hx (n + 1) (by omega) _ _ _ _ hu hk0 fun t h' tk ht hkp => wpAny_pure ?_))
      refine ih ns (acc.push t) (n + (t.length + 2)) _ Q (by simpa using hl) (fun i y hi => hT (i + 1) y hi) (by omega) (fun b o e => hkp _ _ (hk0 _ _ e)) fun ts h'' tk' hts hpt hk2 => ?_
      have h1 := h (t :: ts) h'' tk' (by simp [hts]) (by rw [piled_cons, cost_cons]; omega) fun b o e => hk2 _ _ (hkp _ _ e)
      have e : n + piled (t :: ts) = n + (t.length + 2) + piled ts := by rw [piled_cons]; omega
      rw [e] at h1
      simpa using h1
theorem rep_tupAt {E : Value → Shared → Prop} {h₀ : Heap} {d : Nat} {a : Addr} {o : Obj} {items : Array Value} {n : Nat} {ns : List Nat} {s : Shared} {base : Nat} {Q : Fin → Shared → Prop}
    (ha : h₀.get? a = some o) (hd : o.data = .seq items n) (hlen : ns.length = items.size) (hT : ∀ (i : Nat) (y : Value), items[i]? = some y → ∃ n, ns[i]? = some n ∧ RepN prog w h₀ d n y)
    (hu : A.units + d < cLine) (hk0 : ∀ b o, h₀.get? b = some o → s.heap.get? b = some o) (hsz : base + (cost ns + 5) ≤ sizeLine)
    (hQ : ∀ m h' u tk, m.length ≤ cost ns + 5 → (∀ b o, s.heap.get? b = some o → h'.get? b = some o) → Q (.done (.ret (.str m u))) { s with heap := h', toks := tk }) :
    wpAny (model prog w) A (Builtin.tupleReprAt base ⟨[.ref a], []⟩) Q E s := by
  rw [tuple_repr_tree]
  refine wpAny_bind (fmt_underWay fun b => ?_)
  cases b with
  | true =>
    refine PySem.W.KFB.if_so rfl ?_
    refine wpAny_bind (wpAny_rule (wpAny_bind (wpAny_mkStr (wpAny_pure ?_) (by decide +kernel))))
    exact hQ "(...)" s.heap _ _ (Nat.le_trans fmt_way (Nat.le_add_left _ _)) (fun _ _ e => e)
  | false =>
    refine PySem.W.KFB.if_not rfl ?_
    unfold tupleReprRest Builtin.Tuple.tupleItemsOf
    refine wpAny_bind (wpAny_bind (wpAny_seqItems (hk0 _ _ ha) hd (wpAny_pure ?_)))
    rw [← Array.forIn_toList]
    refine wpAny_bind (rep_tupFold hu _ ns _ _ _ _ (by simpa using hlen) (fun i y hi => hT i y (by simpa using hi)) (by omega) hk0 fun ts h' tk hts hpt hkp => ?_)
    have hlen2 : ts.length = items.size := by simpa using hts
    have htx := fmt_text ts
    refine wpAny_bind (wpAny_mkStr (wpAny_pure ?_) (by
      have z : (tupleText ts).length ≤ sizeLine := by omega
      simpa [tupleText, hlen2] using z))
    have h1 := hQ (tupleText ts) h' tk (tk + 1) (by omega) hkp
    simpa [tupleText, hlen2] using h1
end
section
variable {prog : Program} {w : World} {A : Around} {E : Value → Shared → Prop} {s : Shared}
/-- repr of a list, of a tuple, as an item and at the top -/
theorem RepN.list {h₀ : Heap} {d : Nat} {a : Addr} {oa : Obj} {items : Array Value} {na : Nat} {ns : List Nat} (ha : h₀.get? a = some oa) (hc : oa.cls = .type "list") (hda : oa.data = .seq items na) (hlen : ns.length = items.size)
    (hT : ∀ (i : Nat) (y : Value), items[i]? = some y → ∃ n, ns[i]? = some n ∧ RepN prog w h₀ d n y) : RepN prog w h₀ (d + 1) (cost ns + 5) (.ref a) := by
  intro base hb A E s Q hu hk0 hQ
  refine wpAny_pyReprUnder_ref (by omega) (wpAny_pyReprObjUnder_twin (twin := "list.__repr__.under") ⟨oa, hk0 _ _ ha, hc⟩ F.slot_list_repr.toG rfl (by omega) ?_)
  exact call_twin_plain F.plain_list_repr_under F.entry_list_repr_under F.check_list_repr_under ⟨oa, hk0 _ _ ha, hc⟩ F.slot_list_repr.toG (F.args_list_repr_1 _)
    (rep_listAt (R := callEnd _ E) ha hda hlen hT hu hk0 hb fun m h' u tk hm hk => ⟨⟨m, u, rfl⟩, ⟨m, u, rfl, hQ m h' tk hm hk⟩⟩)
theorem RepN.tuple {h₀ : Heap} {d : Nat} {a : Addr} {oa : Obj} {items : Array Value} {na : Nat} {ns : List Nat} (ha : h₀.get? a = some oa) (hc : oa.cls = .type "tuple") (hda : oa.data = .seq items na) (hlen : ns.length = items.size)
    (hT : ∀ (i : Nat) (y : Value), items[i]? = some y → ∃ n, ns[i]? = some n ∧ RepN prog w h₀ d n y) : RepN prog w h₀ (d + 1) (cost ns + 5) (.ref a) := by
  intro base hb A E s Q hu hk0 hQ
  refine wpAny_pyReprUnder_ref (by omega) (wpAny_pyReprObjUnder_twin (twin := "tuple.__repr__.under") ⟨oa, hk0 _ _ ha, hc⟩ F.slot_tuple_repr rfl (by omega) ?_)
  refine call_twin_own (F.quiet_tuple_repr_under _) F.entry_tuple_repr_under F.check_tuple_repr_under ⟨oa, hk0 _ _ ha, hc⟩ F.slot_tuple_repr (F.args_tuple_repr_1 _) (wpOwn_of_wpAny ?_)
  exact rep_tupAt ha hda hlen hT (by rw [units_under_tuple_repr_under]; omega) hk0 hb fun m h' u tk hm hk => ⟨⟨m, u, rfl⟩, ⟨m, u, rfl, hQ m h' tk hm hk⟩⟩
end
end
end Tw
namespace Tw
open PySem PySem.Spec PyProof.Rows L2
/-! ### data that an error may tell: how deep, how many signs -/
def GoodD : Nat → PyData → Nat → Prop
  | _, .none, c => 4 ≤ c
  | _, .bool _, c => 5 ≤ c
  | _, .int i, c => i.natAbs.log2 < 1920 ∧ 1930 ≤ c
  | _, .str x, c => (∀ k ∈ x.cps.toList, k < 16 ^ 8) ∧ 10 * x.length + 2 ≤ c
  | n + 1, .list ds, c => ds.length ≤ 1000 ∧ ∃ cs, cs.length = ds.length ∧ cost cs + 5 ≤ c ∧ ∀ (i : Nat) d k, ds[i]? = some d → cs[i]? = some k → GoodD n d k
  | n + 1, .tuple ds, c => ds.length ≤ 1000 ∧ ∃ cs, cs.length = ds.length ∧ cost cs + 5 ≤ c ∧ ∀ (i : Nat) d k, ds[i]? = some d → cs[i]? = some k → GoodD n d k
  | _, _, _ => False
theorem dpAll_at {K : PySem.W.Frag} {H : Hp} : ∀ {xs : List V} {ds : List PyData}, DpAll K H xs ds → xs.length = ds.length ∧ ∀ (i : Nat) x d, xs[i]? = some x → ds[i]? = some d → Dp K H x d
  | _, _, .nil => ⟨rfl, fun i x d h => by simp at h⟩
  | _, _, .cons h t => by
    obtain ⟨e, f⟩ := dpAll_at t
    refine ⟨by simp [e], fun i x d h1 h2 => ?_⟩
    cases i with
    | zero =>
      simp at h1 h2
      subst h1 h2
      exact h
    | succ i => exact f i x d (by simpa using h1) (by simpa using h2)
section
variable {X : Cx} {pins : List (Addr × Obj)} {σ : L2.St} {H : Hp} {s : Shared}
end
end Tw
namespace Tw
open PySem PySem.Spec PyProof.Rows L2
/-! ### e.f of a caught own error, its class told by the reading -/
/-! ### try: body, except (x1, x2, x3) as n: suite -/
section
variable {X : Cx} {x1 x2 x3 n : Str} {c1 c2 c3 : Value} {i : Nat} {body suite : List Stmt} {b₀ : Stmt} {p1 p2 p3 pt pos pos' : Pos} {xc : Nat} {tb : WX → TS} {ts : Addr → Value → Option Addr → TS} {Wout : WX}
end
end Tw
namespace Tw
open PySem PySem.Spec PyProof.Rows L2
/-! ### data in a heap that grows -/
theorem sqL_same {K : PySem.W.Frag} {H H' : Hp} {a : Addr} {xs : List V} (e : Same H H') (h : SqL K H a xs) : SqL K H' a xs := by
  rcases h with (h | ⟨o, h⟩) | h
  · exact .inl (.inl (e _ _ h))
  · exact .inl (.inr ⟨o, e _ _ h⟩)
  · exact .inr h
mutual
theorem dp_same {K : PySem.W.Frag} {H H' : Hp} (e : Same H H') : ∀ (d : PyData) (v : V), Dp K H v d → Dp K H' v d
  | .none, _, h => by cases h; exact .non
  | .bool b, _, h => by cases h; exact .bl b
  | .int i, _, h => by cases h; exact .int i
  | .str x, _, h => by cases h; exact .str x
  | .list ds, _, h => by
    cases h with
    | lst hs ha => exact .lst (sqL_same e hs) (dpAll_same e ds _ ha)
  | .tuple ds, _, h => by
    cases h with
    | tup hs ha => exact .tup (sqT_same e hs) (dpAll_same e ds _ ha)
theorem dpAll_same {K : PySem.W.Frag} {H H' : Hp} (e : Same H H') : ∀ (ds : List PyData) (vs : List V), DpAll K H vs ds → DpAll K H' vs ds
  | [], _, h => by cases h; exact .nil
  | d :: ds, _, h => by
    cases h with
    | cons h1 h2 => exact .cons (dp_same e d _ h1) (dpAll_same e ds _ h2)
end
theorem dpAll_of {K : PySem.W.Frag} {H : Hp} : ∀ {xs : List V} {ds : List PyData}, xs.length = ds.length → (∀ (i : Nat) x d, xs[i]? = some x → ds[i]? = some d → Dp K H x d) → DpAll K H xs ds
  | [], [], _, _ => .nil
  | [], _ :: _, h, _ => by cases h
  | _ :: _, [], h, _ => by cases h
  | x :: xs, d :: ds, h, f => .cons (f 0 x d rfl rfl) (dpAll_of (by simpa using h) fun i y e h1 h2 => f (i + 1) y e h1 h2)
/-- what is new in H' beside H -/
def newOf (H H' : Hp) : Hp := fun b => if (H b).isSome then none else H' b
theorem newOf_same {H H' : Hp} : Same (newOf H H') H' := fun a o e => by
  unfold newOf at e
  split at e
  · cases e
  · exact e
theorem newOf_at {H H' : Hp} {a : Addr} {o : HO} (n : H a = none) (h : H' a = some o) : newOf H H' a = some o := by
  unfold newOf
  rw [n]
  exact h
theorem newOf_old {H H' : Hp} {a : Addr} {o : HO} (h : newOf H H' a = some o) : H a = none := by
  unfold newOf at h
  split at h
  · cases h
  · rename_i q
    cases e : H a with
    | none => rfl
    | some u => rw [e] at q; simp at q
/-- all but the thing at D -/
def butD (D : Addr) (H : Hp) : Hp := fun b => if b = D then none else H b
theorem goodD_flat {n c : Nat} {d : PyData} {K : PySem.W.Frag} {H : Hp} {v : V} (h : Dp K H v d) (hf : flatV v = true) : ∀ H', Dp K H' v d := fun H' => by
  cases h with
  | non => exact .non
  | bl b => exact .bl b
  | int i => exact .int i
  | str x => exact .str x
  | lst _ _ => cases hf
  | tup _ _ => cases hf
end Tw
namespace Tw
open PySem PySem.Spec PyProof.Rows L2
/-! ### defs that may raise, by name -/
/-- names in a context, whatever is wished of errors -/
theorem Nm.xe {P : Program} {w : World} {K : PySem.W.Frag} {mg : Str → Option Value} {base : Heap} {j : Nat} {X : Cx} {NS WS : List (Str × Nat)} {G : List Str} (h : Nm P w K mg base j X.nox NS WS G) : Nm P w K mg base j X NS WS G := by
  obtain ⟨h1, h2, h3, h4, h5, h6, h7, h8, h9, h10, h11⟩ := h
  exact ⟨h1, h2, h3, h4, h5, h6, h7, h8, h9, h10, h11⟩
/-- .. in a try's body, in an except suite -/
theorem Nm.tr {P : Program} {w : World} {K : PySem.W.Frag} {mg : Str → Option Value} {base : Heap} {j : Nat} {X : Cx} {NS WS : List (Str × Nat)} {G : List Str} (h : Nm P w K mg base j X NS WS G) (pn : List (Addr × Obj)) (xe : Value → Shared → Prop) : Nm P w K mg base j (X.tr pn xe) NS WS G := by
  obtain ⟨h1, h2, h3, h4, h5, h6, h7, h8, h9, h10, h11⟩ := h
  exact ⟨h1, h2, h3, h4, h5, h6, h7, h8, h9, h10, h11⟩
structure Dx (P : Program) (w : World) (K : PySem.W.Frag) (mg : Str → Option Value) (base : Heap) (k : Nat) (x : Str) (ps : List Str) (sp : Sp) : Prop where
  ex : ∃ f fd, mg x = some (.ref f) ∧ PySem.W.keepIn K (.ref f) = true ∧ Binds K fd ps [] ∧ FnOk P w K mg base (L2.CX P w) k f fd ps sp
section
variable {P : Program} {w : World} {K : PySem.W.Frag} {mg : Str → Option Value} {base : Heap} {j k : Nat} {X : Cx} {NS WS : List (Str × Nat)} {G : List Str} {x : Str} {ps : List Str} {sp : Sp} {e : Expr} {es : List Expr} {t : TA} {p pos : Pos} {E : XK} {W : WX}
end
/-! ### errors that are made -/
/-- what an error of the class at C that tells nm and ds leaves to be wished -/
def ErrAt (K : PySem.W.Frag) (C : Addr) (nm : Str) (ds : List PyData) (H : Hp) (E : XK) : Prop := ∀ (dd t : Addr) (fs : List (Str × V)) (H' : Hp), Same H H' → H dd = none → H' dd = some (.xd fs) → fs.lookup ("code" : Str) = some (.str nm) → fs.lookup ("details" : Str) = some (.ref t) → Dp K (newOf H H') (.ref t) (.tuple ds) → E (.ref C) (some dd) H'
/-- the promise of an error's __init__ -/
def spErr (K : PySem.W.Frag) (C : Addr) (nm : Str) (vsOk : List V → Hp → List PyData → Prop) : Sp := fun vs H Q _ => ∃ (a : Addr) (ws : List V) (ds : List PyData), vs = .ref a :: ws ∧ H a = some (exo a C none) ∧ vsOk ws (butD a H) ds ∧
  ∀ (H' : Hp) (dx t : Addr) (fs : List (Str × V)), (∀ b o, b ≠ a → H b = some o → H' b = some o) → H dx = none → H' a = some (exo a C (some dx)) → H' dx = some (exd dx fs) → fs.lookup ("code" : Str) = some (.str nm) → fs.lookup ("details" : Str) = some (.ref t) → Dp K (butD dx (butD a (newOf H H'))) (.ref t) (.tuple ds) → Q .non H'
structure Ke (P : Program) (w : World) (K : PySem.W.Frag) (mg : Str → Option Value) (base : Heap) (k : Nat) (x : Str) (C : Addr) (nm : Str) (ps : List Str) (vsOk : List V → Hp → List PyData → Prop) : Prop where
  at_ : mg x = some (.ref C)
  T : OexC K C
  ex : ∃ fI fd, PySem.W.findIn K (.ref C) "__init__" = some (some (.ref fI)) ∧ PySem.W.typeIn K (.ref fI) = some (.type "function") ∧ Binds K fd ps [] ∧ FnOk P w K mg base CX0 k fI fd ps (spErr K C nm vsOk)
/-- what is wanted of the error's object behind its __init__ -/
def keEnd (C a : Addr) (H1 : Hp) (E : XK) : VK := fun v H2 => v = .non ∧ ∃ (d : Addr) (fs : List (Str × V)), H2 a = some (exo a C (some d)) ∧ H2 d = some (exd d fs) ∧ H1 d = none ∧ E (.ref C) (some d) (upd (del H2 a) d (.xd fs))
def tKe (K : PySem.W.Frag) (C : Addr) (nm : Str) (vsOk : List V → Hp → List PyData → Prop) (ta : TA) : L2.St → Hp → XK → Prop := fun σ H E => ta σ H fun vs H1 => vs.length ≤ 1000 ∧ ∀ a, H1 a = none → spErr K C nm vsOk (.ref a :: vs) (upd H1 a (exo a C none)) (keEnd C a H1 E) (fun _ _ _ => False)
theorem butD_free {a : Addr} {H : Hp} {o : HO} (h : H a = none) : butD a (upd H a o) = H := by
  funext b
  unfold butD
  by_cases hb : b = a
  · rw [if_pos hb, hb, h]
  · rw [if_neg hb, upd_ne hb]
section
variable {P : Program} {w : World} {K : PySem.W.Frag} {mg : Str → Option Value} {base : Heap} {j k : Nat} {X : Cx} {NS WS : List (Str × Nat)} {G : List Str} {x nm : Str} {C : Addr} {ps : List Str} {vsOk : List V → Hp → List PyData → Prop} {e : Expr} {es : List Expr} {t : TA} {p pos : Pos}
theorem ke_end {a : Addr} {vs : List V} {H1 : Hp} {ds : List PyData} {E : XK} (na : H1 a = none) (hv : vsOk vs H1 ds) (hE : ErrAt K C nm ds H1 E) :
    spErr K C nm vsOk (.ref a :: vs) (upd H1 a (exo a C none)) (keEnd C a H1 E) (fun _ _ _ => False) := by
  refine ⟨a, vs, ds, rfl, upd_same, by rw [butD_free na]; exact hv, fun H' dx t fs hs hdx ha hd hc hde hdp => ?_⟩
  have ndx : dx ≠ a := fun z => by rw [z, upd_same] at hdx; cases hdx
  rw [upd_ne ndx] at hdx
  refine ⟨rfl, dx, fs, ha, hd, hdx, hE dx t fs _ (fun b o hb => ?_) hdx upd_same hc hde (dp_same (fun b o hb => ?_) _ _ hdp)⟩
  · have n1 : b ≠ a := ne_of_none hb na
    have n2 : b ≠ dx := ne_of_none hb hdx
    rw [upd_ne n2, del_ne n1]
    exact hs b o n1 (by rw [upd_ne n1]; exact hb)
  · unfold butD at hb
    split at hb
    · cases hb
    · rename_i n2
      split at hb
      · cases hb
      · rename_i n1
        have z := newOf_old hb
        rw [upd_ne n1] at z
        refine newOf_at z ?_
        rw [upd_ne n2, del_ne n1]
        exact newOf_same _ _ hb
/-- .. an error without arguments -/
theorem ke_ok {K : PySem.W.Frag} {C : Addr} {nm : Str} {vsOk : List V → Hp → List PyData → Prop} {vs : List V} {H1 : Hp} {ds : List PyData} {E : XK} (hl : vs.length ≤ 1000) (hv : vsOk vs H1 ds) (hE : ErrAt K C nm ds H1 E) :
    vs.length ≤ 1000 ∧ ∀ a, H1 a = none → spErr K C nm vsOk (.ref a :: vs) (upd H1 a (exo a C none)) (keEnd C a H1 E) (fun _ _ _ => False) := ⟨hl, fun a na => ke_end na hv hE⟩
end
end Tw
namespace Tw
open PySem PySem.Spec PyProof.Rows L2 LamX NdefX
/-! ### lambdas as things: made -/
/-- a lambda's words: its qualified name, parameters, body, scope, captured cells, code object, its defaults -/
structure LF where
  qual : Str
  params : Arguments
  body : Expr
  scope : Scope
  cl : List (Str × Addr)
  c : Addr
  dv : Value
abbrev LF.fd (F : LF) (pm ctv : Value) : FuncData :=
  { name := "<lambda>", qualname := F.qual, params := F.params, body := .expr F.body, scope := F.scope, globals := mainGlobals, closure := F.cl, defaults := F.dv, kwdefaults := .none, doc := .none, pyModule := pm, annotations := none, code := .ref F.c, closureTuple := ctv, builtins := builtinsNs }
abbrev LF.obj (F : LF) (pm ctv : Value) : Obj := { cls := .type "function", data := .func (F.fd pm ctv) }
section
variable {M : Model} {A : Around} {E : Value → Shared → Prop} {s : Shared} {name qual : Str} {params : Arguments} {body : Expr} {scope : Scope} {env : Env} {c P : Addr} {ps : Array Value} {pos : Pos} {firstLine : Nat} {mg : Str → Option Value} {clos : List (Str × Addr)} {Q : Value → Shared → Prop} {dv : Value}
end
section
variable {X : Cx} {pins : List (Addr × Obj)} {σ : L2.St} {H : Hp} {s : Shared}
end
section
variable {X : Cx} {T : List NTab} {nm : Nat → Nat → Str} {c P : Addr} {params : Arguments} {body : Expr} {scope : Scope} {pos : Pos}
end
end Tw
namespace Tw
open PySem PySem.Spec PyProof.Rows L2 LamX NdefX
/-! ### cells lent to a callee: known things in its heap -/
/-- at b just this object -/
def PinO (b : Addr) (o : Obj) : HO := .ext fun h => h.get? b = some o
abbrev Cells := List (Addr × Obj)
def unlend (cs : Cells) (H : Hp) : Hp := fun b => match cs.lookup b with
  | some _ => none
  | none => H b
theorem unlend_out {cs : Cells} {H : Hp} {b : Addr} (h : cs.lookup b = none) : unlend cs H b = H b := by unfold unlend; rw [h]
/-- all the cells at cs stand in H -/
def Lent (cs : Cells) (H : Hp) : Prop := ∀ b o, cs.lookup b = some o → H b = some (PinO b o)
theorem Lent.same {cs : Cells} {H H' : Hp} (l : Lent cs H) (e : Same H H') : Lent cs H' := fun b o h => e _ _ (l b o h)
/-! #### within: from the heap with the cells known to the one without -/
section
variable {P : Program} {w : World} {K : PySem.W.Frag} {mg : Str → Option Value} {base : Heap} {A : Around} {outer : List Env} {s s' : Shared} {H H' : Hp} {cs : Cells} {Q : VK} {E : XK} {u : Value}
end
/-! ### a lambda called -/
/-- calling f() keeps the promise t -/
structure LamOk (P : Program) (w : World) (K : PySem.W.Frag) (mg : Str → Option Value) (base : Heap) (k : Nat) (f : Addr) (t : Hp → VK → XK → Prop) : Prop where
  run : ∀ (A : Around) (outer : List Env) (s : Shared) (H : Hp) (Q : VK) (E : XK), Room k A → Env0 P w K mg base A outer s H → t H Q E → codeAny (model P w) A (.call (.ref f) ⟨[], []⟩) (CR (L2.CX P w) outer P w H s Q E) s
theorem LamOk.mono {P : Program} {w : World} {K : PySem.W.Frag} {mg : Str → Option Value} {base : Heap} {j k : Nat} {f : Addr} {t : Hp → VK → XK → Prop} (L : LamOk P w K mg base j f t) (h : j ≤ k) : LamOk P w K mg base k f t :=
  ⟨fun A outer s H Q E hr e0 z => L.run A outer s H Q E (hr.mono h) e0 z⟩
/-- what the captured cells hold, told by the cells that are lent -/
structure LentFor (cl : List (Str × Addr)) (fr : List Str) (ws : List (Option V)) (cs : Cells) : Prop where
  len : ws.length = fr.length
  all : ∀ y c, cl.lookup y = some c → ∃ o v, cs.lookup c = some o ∧ o.data = .cell v
  inj : ∀ x y c, cl.lookup x = some c → cl.lookup y = some c → x = y
  has : ∀ (i : Nat) (y : Str), fr[i]? = some y → ∃ c, cl.lookup y = some c ∧ ∀ v, ws[i]? = some (some v) → ∃ o u, cs.lookup c = some o ∧ o.data = .cell (some u) ∧ L2.RelV v u
end Tw
namespace Tw
open PySem PySem.Spec PyProof.Rows L2 LamX NdefX
/-! ### a call to which the caller's cells are lent -/
structure LentOf (ce : List (Str × Addr)) (N : List Str) (sc : Scope) (σ : L2.St) (cs : Cells) (H : Hp) : Prop where
  free : ∀ b o, cs.lookup b = some o → H b = none
  all : ∀ y c, ce.lookup y = some c → ∃ o v, cs.lookup c = some o ∧ o.data = .cell v
  inj : ∀ x y c, ce.lookup x = some c → ce.lookup y = some c → x = y
  val : ∀ (i : Nat) (y : Str) (v : V), N[i]? = some y → σ[i]? = some (some v) → sc.names.lookup y = some .cell → ∃ c o u, ce.lookup y = some c ∧ cs.lookup c = some o ∧ o.data = .cell (some u) ∧ L2.RelV v u
  has : ∀ y, sc.names.lookup y = some .cell → ∃ c, ce.lookup y = some c
section
variable {X : Cx} {pins : List (Addr × Obj)} {σ : L2.St} {H : Hp} {s : Shared}
end
section
variable {P : Program} {w : World} {K : PySem.W.Frag} {mg : Str → Option Value} {base : Heap} {j k : Nat} {X : Cx} {NS WS : List (Str × Nat)} {G : List Str} {x : Str} {ps : List Str} {sp : Sp} {e : Expr} {es : List Expr} {t : TA} {p pos : Pos}
end
/-! data are no cells -/
theorem sqL_unlend {K : PySem.W.Frag} {H : Hp} {cs : Cells} {a : Addr} {xs : List V} (l : Lent cs H) (h : SqL K H a xs) : SqL K (unlend cs H) a xs := by
  have out : ∀ o, H a = some o → (∀ ob, o ≠ PinO a ob) → unlend cs H a = some o := fun o e n => by
    cases q : cs.lookup a with
    | none => rw [unlend_out q]; exact e
    | some ob => rw [l a ob q] at e; exact absurd (Option.some.inj e).symm (n ob)
  rcases h with (h | ⟨o, h⟩) | h
  · exact .inl (.inl (out _ h fun ob z => by have z' : HO.lst xs = HO.ext _ := z; cases z'))
  · exact .inl (.inr ⟨o, out _ h fun ob z => by have z' : HO.frz o _ = HO.ext _ := z; cases z'⟩)
  · exact .inr h
theorem sqT_unlend {K : PySem.W.Frag} {H : Hp} {cs : Cells} {a : Addr} {xs : List V} (l : Lent cs H) (h : SqT K H a xs) : SqT K (unlend cs H) a xs := by
  have out : ∀ o, H a = some o → (∀ ob, o ≠ PinO a ob) → unlend cs H a = some o := fun o e n => by
    cases q : cs.lookup a with
    | none => rw [unlend_out q]; exact e
    | some ob => rw [l a ob q] at e; exact absurd (Option.some.inj e).symm (n ob)
  rcases h with (h | ⟨o, h⟩) | h
  · exact .inl (.inl (out _ h fun ob z => by have z' : HO.tup xs = HO.ext _ := z; cases z'))
  · exact .inl (.inr ⟨o, out _ h fun ob z => by have z' : HO.frz o _ = HO.ext _ := z; cases z'⟩)
  · exact .inr h
mutual
theorem dp_unlend {K : PySem.W.Frag} {H : Hp} {cs : Cells} (l : Lent cs H) : ∀ (d : PyData) (v : V), Dp K H v d → Dp K (unlend cs H) v d
  | .none, _, h => by cases h; exact .non
  | .bool b, _, h => by cases h; exact .bl b
  | .int i, _, h => by cases h; exact .int i
  | .str x, _, h => by cases h; exact .str x
  | .list ds, _, h => by
    cases h with
    | lst hs ha => exact .lst (sqL_unlend l hs) (dpAll_unlend l ds _ ha)
  | .tuple ds, _, h => by
    cases h with
    | tup hs ha => exact .tup (sqT_unlend l hs) (dpAll_unlend l ds _ ha)
theorem dpAll_unlend {K : PySem.W.Frag} {H : Hp} {cs : Cells} (l : Lent cs H) : ∀ (ds : List PyData) (vs : List V), DpAll K H vs ds → DpAll K (unlend cs H) vs ds
  | [], _, h => by cases h; exact .nil
  | d :: ds, _, h => by
    cases h with
    | cons h1 h2 => exact .cons (dp_unlend l d _ h1) (dpAll_unlend l ds _ h2)
end
/-! the names of a lambda's body -/
end Tw
namespace Tw
open PySem PySem.Spec PyProof.Rows L2 LamX NdefX
/-! ### what stays where only tables of code grow -/
theorem ext_lst {H H' : Hp} (e : ExtN H H') {a : Addr} {xs : List V} (h : H a = some (.lst xs)) : H' a = some (.lst xs) := e _ _ h fun ps z => by cases z
theorem ext_tup {H H' : Hp} (e : ExtN H H') {a : Addr} {xs : List V} (h : H a = some (.tup xs)) : H' a = some (.tup xs) := e _ _ h fun ps z => by cases z
theorem sqL_ext {K : PySem.W.Frag} {H H' : Hp} {a : Addr} {xs : List V} (e : ExtN H H') (h : SqL K H a xs) : SqL K H' a xs := by
  rcases h with (h | ⟨o, h⟩) | h
  · exact .inl (.inl (ext_lst e h))
  · exact .inl (.inr ⟨o, e _ _ h fun ps z => by cases z⟩)
  · exact .inr h
theorem sqT_ext {K : PySem.W.Frag} {H H' : Hp} {a : Addr} {xs : List V} (e : ExtN H H') (h : SqT K H a xs) : SqT K H' a xs := by
  rcases h with (h | ⟨o, h⟩) | h
  · exact .inl (.inl (ext_tup e h))
  · exact .inl (.inr ⟨o, e _ _ h fun ps z => by cases z⟩)
  · exact .inr h
mutual
theorem dp_ext {K : PySem.W.Frag} {H H' : Hp} (l : ExtN H H') : ∀ (d : PyData) (v : V), Dp K H v d → Dp K H' v d
  | .none, _, h => by cases h; exact .non
  | .bool b, _, h => by cases h; exact .bl b
  | .int i, _, h => by cases h; exact .int i
  | .str x, _, h => by cases h; exact .str x
  | .list ds, _, h => by
    cases h with
    | lst hs ha => exact .lst (sqL_ext l hs) (dpAll_ext l ds _ ha)
  | .tuple ds, _, h => by
    cases h with
    | tup hs ha => exact .tup (sqT_ext l hs) (dpAll_ext l ds _ ha)
theorem dpAll_ext {K : PySem.W.Frag} {H H' : Hp} (l : ExtN H H') : ∀ (ds : List PyData) (vs : List V), DpAll K H vs ds → DpAll K H' vs ds
  | [], _, h => by cases h; exact .nil
  | d :: ds, _, h => by
    cases h with
    | cons h1 h2 => exact .cons (dp_ext l d _ h1) (dpAll_ext l ds _ h2)
end
/-! ### data with few signs -/
theorem GoodD.up {n c c' : Nat} {d : PyData} (h : GoodD n d c) (hc : c ≤ c') : GoodD n d c' := by
  cases d with
  | none => cases n <;> exact Nat.le_trans h hc
  | bool b => cases n <;> exact Nat.le_trans h hc
  | int i => cases n <;> exact ⟨h.1, Nat.le_trans h.2 hc⟩
  | str x => cases n <;> exact ⟨h.1, Nat.le_trans h.2 hc⟩
  | dict ds => cases n <;> exact h.elim
  | list ds =>
    cases n with
    | zero => exact h.elim
    | succ n =>
      obtain ⟨h1, cs, h2, h3, h4⟩ := h
      exact ⟨h1, cs, h2, Nat.le_trans h3 hc, h4⟩
  | tuple ds =>
    cases n with
    | zero => exact h.elim
    | succ n =>
      obtain ⟨h1, cs, h2, h3, h4⟩ := h
      exact ⟨h1, cs, h2, Nat.le_trans h3 hc, h4⟩
/-! cells of a frame, by name -/
/-! ### a call that is told not to raise, of a promise that may -/
theorem fn_from {P : Program} {w : World} {K : PySem.W.Frag} {mg : Str → Option Value} {base : Heap} {k : Nat} {f : Addr} {fd : FuncData} {ps : List Str} {sp sp' : Sp} (F : FnOk P w K mg base (L2.CX P w) k f fd ps sp) (h : ∀ vs H Q E, sp' vs H Q E → sp vs H Q E0) : FnOk P w K mg base CX0 k f fd ps sp' := by
  refine ⟨fun vs H Q E z => F.len _ _ _ _ (h _ _ _ _ z), fun A outer s H args us vs Q E hr e0 hb r z => ?_⟩
  refine codeAny_mono (F.run A outer s H args us vs Q E0 hr e0 hb r (h _ _ _ _ z)) fun r s' q => ?_
  cases r with
  | ok fl => cases fl <;> exact q
  | error e =>
    obtain ⟨_, _, _, _, _, _, _, _, _, _, _, _, z⟩ := (show L2.CX P w outer H s E0 e s' from q)
    exact z.elim
end Tw
namespace Tw
open PySem PySem.Spec PyProof.Rows L2
/-! ### error classes, by one look at the heap -/
def oexB (K : Fg) (C : Addr) : Bool := (match K.lookup C with
  | some ⟨ct, _, .cls cd, ⟨[_, _, _, _, k4, _]⟩⟩ => decide (ct = .type "type") && (match cd.mro with
    | .ref C' :: bm => decide (C' = C) && PySem.HandSPX.refsVE bm
    | _ => false) && cd.hasDict && !cd.hasDel && decide (k4 = some (.builtin "ValueError.__new__"))
  | _ => false) && (decide (PySem.W.findIn K (.ref C) "__setattr__" = some (some (.builtin "object.__setattr__"))) && (decide (PySem.W.subIn K (.ref C) (.type "BaseException") = some true) && (decide (PySem.W.typeIn K (.ref C) = some (.type "type")) && PySem.W.keepIn K (.ref C))))
theorem oexB_ok {K : Fg} {C : Addr} (h : oexB K C = true) : OexC K C := by
  unfold oexB at h
  rw [Bool.and_eq_true_iff, Bool.and_eq_true_iff, Bool.and_eq_true_iff, Bool.and_eq_true_iff] at h
  obtain ⟨h1, h2, h3, h4, h5⟩ := h
  refine ⟨?_, of_decide_eq_true h2, of_decide_eq_true h3, of_decide_eq_true h4, h5⟩
  split at h1
  · rename_i ct dd cd k0 k1 k2 k3 k4 k5 e
    rw [Bool.and_eq_true_iff, Bool.and_eq_true_iff, Bool.and_eq_true_iff, Bool.and_eq_true_iff] at h1
    obtain ⟨⟨⟨⟨a1, a2⟩, a3⟩, a4⟩, a5⟩ := h1
    obtain ⟨name, bases, mro, ns, qualname, hasDict, slotNames, subclasses, abstract, collection, hasDel⟩ := cd
    dsimp only at a2 a3 a4
    split at a2
    · rename_i C' bm
      rw [Bool.and_eq_true_iff] at a2
      have e1 := of_decide_eq_true a1
      have e2 := of_decide_eq_true a2.1
      have e5 := of_decide_eq_true a5
      have e4 : hasDel = false := by cases hasDel <;> first | rfl | cases a4
      subst e1 e2 e5 e4 a3
      exact ⟨_, _, _, _, _, _, _, _, _, _, _, _, _, _, _, e, a2.2⟩
    · cases a2
  · cases h1
def excB (K : Fg) (D : Addr) : Bool := decide (PySem.W.findIn K (.ref D) "__getattribute__" = some (some (.builtin "BaseException.__getattribute__"))) && (decide (PySem.W.findIn K (.ref D) "__getattr__" = some none) && (decide (PySem.W.subIn K (.ref D) (.type "BaseException") = some true) && (PySem.W.hasDictIn K D &&
  (decide (PySem.W.findIn K (.ref D) "__class__" = some (some (.builtin "object.__class__"))) && (decide (PySem.W.specialIn K (.builtin "object.__class__") "__get__" = some (some (.builtin "getset_descriptor.__get__"))) && (decide (PySem.W.takesIn K (.builtin "object.__class__") = some true) && decide (PySem.W.mroIn K D (.type "object") = some true)))))))
theorem excB_ok {K : Fg} {D : Addr} (h : excB K D = true) : ExcC K D ∧ XfC K D := by
  unfold excB at h
  simp only [Bool.and_eq_true_iff, decide_eq_true_eq] at h
  obtain ⟨h1, h2, h3, h4, h5, h6, h7, h8⟩ := h
  exact ⟨⟨h1, h2, h3, h4, h5, h6, h7, h8⟩, ⟨h1, h2, h3, h4⟩⟩
def nameB (K : Fg) (C : Addr) (nm : Str) : Bool := match K.lookup C with
  | some ⟨ct, _, _, ⟨_ :: _ :: some (.str z _) :: _⟩⟩ => decide (ct = .type "type") && decide (z = nm)
  | _ => false
def nmfB' (K : Fg) (C : Addr) : Bool := match PySem.W.findCls K (.ref C) (.type "type") "__name__" with
  | some (.get g v o t) => decide (g = .builtin "getset_descriptor.__get__") && (decide (v = .builtin "type.__name__") && (decide (o = .ref C) && decide (t = .type "type")))
  | _ => false
theorem nmfB'_ok {K : Fg} {C : Addr} (h : nmfB' K C = true) : PySem.W.findCls K (.ref C) (.type "type") "__name__" = some (.get (.builtin "getset_descriptor.__get__") (.builtin "type.__name__") (.ref C) (.type "type")) := by
  unfold nmfB' at h
  split at h
  · rename_i g v o t e
    simp only [Bool.and_eq_true_iff, decide_eq_true_eq] at h
    obtain ⟨rfl, rfl, rfl, rfl⟩ := h
    exact e
  · cases h
def errB (K : Fg) (C : Addr) (nm : Str) : Bool := excB K C && (nameB K C nm && (decide (PySem.W.nsIn K cStatics "thirdparty.any" = some none) && (decide (PySem.W.typeIn K (.ref C) = some (.type "type")) && nmfB' K C)))
theorem errB_ok {K : Fg} {C : Addr} {nm : Str} (h : errB K C nm = true) : ErrN K C nm := by
  unfold errB at h
  simp only [Bool.and_eq_true_iff, decide_eq_true_eq] at h
  obtain ⟨h1, h2, h3, h4, h5⟩ := h
  refine ⟨(excB_ok h1).1, ?_, h3, h4, nmfB'_ok h5⟩
  unfold nameB at h2
  split at h2
  · rename_i ct dd dt s0 s1 z t r e
    rw [Bool.and_eq_true_iff] at h2
    rw [← of_decide_eq_true h2.2]
    exact ⟨_, t, e, of_decide_eq_true h2.1, rfl⟩
  · cases h2
/-! ### the law's code object and its table -/
def lwC (K : Fg) : Addr := cdA K (He.ga K "law")
def lwP (K : Fg) : Addr := He.tabOf K (lwC K)
structure SaysP (fs : List FdO) (ex : Fg → List Bool) (h : Heap) (K : Fg) : Prop where
  kin : K.In h
  sy : SaysO fs ex K
  hd : PySem.W.codeHdIn K (lwC K) (lwP K) = true
  nK : K.lookup (lwP K) = none
  at_ : h.get? (lwP K) = some { cls := .none, data := .fields #[] }
end Tw
/-! t[::-1], t a tuple (the library has it of lists; getItem_tuple_cut and sliceApplied_gen followed, with the step -1) -/
namespace HT
open PySem PySem.Calls PyProof.Rows
section
variable {prog : Program} {w : World} {A : Around} {E : Value → Shared → Prop} {s : Shared}
theorem adjust_rev (n : Nat) : Builtin.Slice.sliceAdjust none none (-1) (n : Int) = ((n : Int) - 1, -1) := by
  unfold Builtin.Slice.sliceAdjust
  simp
theorem places_rev (n : Nat) : Builtin.Slice.slicePlaces ((n : Int) - 1) (-1) (-1) = n := by
  unfold Builtin.Slice.slicePlaces
  have h1 : ¬ ((-1 : Int) > 0) := by omega
  simp only [h1, if_false]
  split
  · rw [show (- -1 : Int) = 1 by decide, Int.ediv_one]
    omega
  · omega
theorem sliceApplied_rev {sl : Addr} {t : Tok} {n : Nat} {Q : Int × Int × Nat → Shared → Prop} (hs : s.heap.IsSliceOf sl .none .none (.int (-1) t)) (h : Q ((n : Int) - 1, -1, n) s) :
    wpAny (model prog w) A (Builtin.Slice.sliceApplied (.ref sl) (pure (n : Int))) Q E s := by
  obtain ⟨os, hos, hcs, hds⟩ := id hs
  unfold Builtin.Slice.sliceApplied Builtin.Slice.sliceFields
  refine wpAny_bind (wpAny_bind (wpAny_field hos hds (x := .none) rfl (wpAny_bind (wpAny_field hos hds (x := .none) rfl (wpAny_bind (wpAny_field hos hds (x := .int (-1) t) rfl (wpAny_pure ?_)))))))
  refine wpAny_bind (slicePart_int ?_)
  show wpAny _ _ (if ((-1 : Int) == 0) = true then _ else _) _ _ s
  rw [if_neg (by decide)]
  refine wpAny_bind (slicePart_none (wpAny_bind (slicePart_none (wpAny_bind (wpAny_pure ?_)))))
  show wpAny _ _ (match Builtin.Slice.sliceAdjust none none (-1) (n : Int) with | (lo, hi) => pure (lo, (-1 : Int), Builtin.Slice.slicePlaces lo hi (-1))) _ _ s
  rw [adjust_rev n]
  show wpAny _ _ (pure ((n : Int) - 1, (-1 : Int), Builtin.Slice.slicePlaces ((n : Int) - 1) (-1) (-1))) _ _ s
  rw [places_rev]
  exact wpAny_pure h
theorem pick_rev (xs : Array Value) : ((List.range xs.size).filterMap fun (m : Nat) => xs[((xs.size : Int) - 1 + (m : Int) * (-1)).toNat]?).toArray = xs.toList.reverse.toArray := by
  have e : ((List.range xs.size).filterMap fun (m : Nat) => xs[((xs.size : Int) - 1 + (m : Int) * (-1)).toNat]?) = ((List.range xs.size).map fun k => xs.size - 1 - k).filterMap (xs[·]?) := by
    rw [List.filterMap_map]
    have key : ∀ (l : List Nat), (∀ m ∈ l, m < xs.size) → (l.filterMap fun (m : Nat) => xs[((xs.size : Int) - 1 + (m : Int) * (-1)).toNat]?) = l.filterMap ((fun x => xs[x]?) ∘ fun k => xs.size - 1 - k) := fun l hl => by
      induction l with
      | nil => rfl
      | cons m r ih =>
        have hm := hl m List.mem_cons_self
        have e1 : ((xs.size : Int) - 1 + (m : Int) * (-1)).toNat = xs.size - 1 - m := by omega
        rw [List.filterMap_cons, List.filterMap_cons, ih fun k hk => hl k (List.mem_cons_of_mem _ hk), e1]
        rfl
    exact key _ fun m hm => List.mem_range.mp hm
  rw [e, PySem.W.krv_range, List.filterMap_reverse, PySem.W.krv_all]
theorem getItem_tuple_rev {t sl : Addr} {items : Array Value} {tk : Tok} {Q : Value → Shared → Prop} (ht : IsTup s.heap t items) (hs : s.heap.IsSliceOf sl .none .none (.int (-1) tk))
    (h : Q (.ref s.heap.objs.size) { s with heap := s.heap.push { cls := .type "tuple", data := .seq items.toList.reverse.toArray } })
    (hsz : items.size ≤ sizeLine) : wpAny (model prog w) A (getItem (.ref t) (.ref sl)) Q E s := by
  have htake : sizeOk (.seq items.toList.reverse.toArray) := by
    show items.toList.reverse.toArray.size ≤ sizeLine
    rw [List.size_toArray, List.length_reverse, Array.length_toList]
    exact hsz
  obtain ⟨os, hos, hcs, hds⟩ := id hs
  have hTs : s.TypeIs (.ref sl) "slice" := ⟨os, hos, hcs⟩
  unfold getItem
  try with_reducible refine wpAny_holding ?_
  first | refine wpAny_bind (wpAny_pure ?_) | skip
  refine wpAny_bind (wpAny_sequenceKey ht.typeIs (by decide) ?_)
  refine wpAny_bind (wpAny_callSpecial?_slot (name := Str.ofString "__getitem__") ht.typeIs PyProof.Rows.slot_tuple_getitem
    (wpAny_call_entry PyProof.Rows.slot_tuple_getitem ht.typeIs entry_tuple_getitem ?_ (args_tuple_getitem _ _)))
  show wpAny _ _ (Builtin.Tuple.tupleItemsOf (.ref t) >>= _) _ _ s
  refine wpAny_bind (tupleItemsOf_ ht ?_)
  refine wpAny_bind (wpAny_typeOf hTs ?_)
  rw [if_pos (by decide)]
  refine wpAny_bind (sliceApplied_rev hs ?_)
  have hno : ¬ ((((items.size : Int) - 1) == 0 && (-1 : Int) == 1 && items.size == items.size) = true) := by
    intro q
    rw [Bool.and_eq_true, Bool.and_eq_true] at q
    exact absurd q.1.2 (by decide)
  show wpAny _ _ (if (((items.size : Int) - 1) == 0 && (-1 : Int) == 1 && items.size == items.size) = true then _ else _) _ _ s
  rw [if_neg hno, pick_rev]
  first
    | exact wpAny_bind (m := Builtin.Tuple.tupleExact _) (wpAny_newObj_type (wpAny_pure ⟨_, rfl, wpAny_pure h⟩) htake)
    | exact wpAny_bind (m := Builtin.Tuple.tupleExact _) (wpAny_newObj_type (wpAny_bind (wpAny_pure (wpAny_pure ⟨_, rfl, wpAny_pure h⟩))) htake)
    | exact wpAny_bind (wpAny_bind (m := Builtin.Tuple.tupleExact _) (wpAny_newObj_type (wpAny_pure (wpAny_pure ⟨_, rfl, wpAny_pure h⟩)) htake))
    | exact wpAny_bind (wpAny_bind (m := Builtin.Tuple.tupleExact _) (wpAny_newObj_type (wpAny_pure ⟨_, rfl, wpAny_pure h⟩) htake))
end
end HT
namespace Tw
open PySem PySem.Spec PyProof.Rows L2 RT
def tRevT (K : PySem.W.Frag) (te : TE) : TE := fun σ H Q => te σ H fun x H1 => ∃ a xs, x = .ref a ∧ SqT K H1 a xs ∧ ∀ p, H1 p = none → Q (.ref p) (upd H1 p (.tup xs.reverse))
theorem pe_revT {X : Cx} {e : Expr} {te : TE} {k : Nat} {p1 p2 p3 pos : Pos} (he : PE X e te) : PE X (.Subscript e (.Slice none none (some (.UnaryOp .USub (.Constant (.int 1) k p1) p2)) p3) pos) (tRevT X.K te) := by
  refine ⟨fun pins s σ H Q I h => ?_⟩
  refine Subscript_ (thn (he.run pins s σ H _ I h) fun v s1 ⟨x, H1, I1, r1, q1⟩ => ?_)
  obtain ⟨a, xs, ex, hx, q⟩ := q1
  subst ex
  cases r1
  have hst : PO X (some (.UnaryOp .USub (.Constant (.int 1) k p1) p2)) (tPart (tUn (rU fun i => .int (-i)) (tC (.int 1)))) := po_some (pe_un un_neg pe_int)
  refine wpAny_Slice (thn (po_none.run pins s1 σ H1 (fun o H2 => o = none ∧ H2 = H1) I1 ⟨rfl, rfl⟩) fun vl s2 ⟨l, H2, I2, pl, el, e2⟩ => ?_)
  subst el e2
  refine thn (po_none.run pins s2 σ H2 (fun o H3 => o = none ∧ H3 = H2) I2 ⟨rfl, rfl⟩) fun vu s3 ⟨u, H3, I3, pu, eu, e3⟩ => ?_
  subst eu e3
  refine thn (hst.run pins s3 σ H3 (fun o H4 => o = some (-1) ∧ H4 = H3) I3 ⟨1, rfl, -1, rfl, rfl, rfl⟩) fun vs s4 ⟨o, H4, I4, ps, eo, e4⟩ => ?_
  subst eo e4
  cases pl
  cases pu
  obtain ⟨tk, rfl⟩ : ∃ tk, vs = Value.int (-1) tk := by cases ps; exact ⟨_, rfl⟩
  have I5 : Inv X pins σ H4 { s4 with heap := s4.heap.push { cls := .type "slice", data := .fields #[.none, .none, .int (-1) tk] } } := I4.kept (t' := s4.toks) fun b ob q => Heap.get?_push_of_some _ q
  obtain ⟨its, r, ht, hz⟩ := I5.tuple hx
  have hlen := r.length
  show wpAny (model X.prog X.w) X.A (subscriptTail e (.Slice none none (some (.UnaryOp .USub (.Constant (.int 1) k p1) p2)) p3) (.ref a) (.ref s4.heap.objs.size)) (EP X pins σ Q) X.xe { s4 with heap := s4.heap.push { cls := .type "slice", data := .fields #[.none, .none, .int (-1) tk] } }
  refine tail_any (ops := [.ref a, .ref s4.heap.objs.size]) ht.typeIs PyProof.Rows.slot_tuple_getitem.lookup ?_ (by with_unfolding_all rfl)
  refine HT.getItem_tuple_rev ht (Heap.IsSliceOf.new _ .none .none (.int (-1) tk)) ?_ (by rw [List.size_toArray]; omega)
  refine ⟨.ref _, _, I5.laid (t' := s4.toks) (o := .tup xs.reverse) (fun b ob q => Heap.get?_push_of_some _ q) (Nat.le_refl _) ?_, rfl, q _ (I5.hok.fresh (Nat.le_refl _))⟩
  exact ⟨by rw [List.length_reverse]; exact hz, _, r.reverse, IsTup.new _ _⟩
/-- for x in reversed(t), t a tuple -/
theorem for_revT {K : PySem.W.Frag} {a : Addr} {xs : List V} {g : TG} {tb : TS} {D : Ends} {σ : L2.St} {H : Hp} (Pv : Nat → L2.St → Hp → Prop) (h0 : Pv 0 σ H) (hl : ∀ i σ H, i ≤ xs.length → Pv i σ H → SqT K H a xs)
    (hs : ∀ i x σ H, i < xs.length → xs[xs.length - 1 - i]? = some x → Pv i σ H → g x σ H fun σ2 H2 => tb { D with nx := Pv (i + 1), ct := Pv (i + 1), bk := D.nx } σ2 H2) (hd : ∀ σ H, Pv xs.length σ H → D.nx σ H) :
    ∃ W : Nat → Nat → L2.St → Hp → Prop, (∃ m, W 0 m σ H) ∧ ∀ i m σ H, W i m σ H →
      ((ItvT K a xs.length).stop i H ∧ D.nx σ H) ∨ ((ItvT K a xs.length).go i H ∧ ∃ N : L2.St → Hp → Prop, (∀ σ' H', N σ' H' → ∃ m', m' < m ∧ W (i + 1) m' σ' H') ∧ ∀ x H', (ItvT K a xs.length).yld i H x H' → g x σ H' fun σ2 H2 => tb { D with nx := N, ct := N, bk := D.nx } σ2 H2) := by
  refine ⟨fun i m σ H => m = xs.length - i ∧ i ≤ xs.length ∧ Pv i σ H, ⟨xs.length, by simp, Nat.zero_le _, h0⟩, ?_⟩
  rintro i m σ H ⟨rfl, hi, p⟩
  have q := hl i σ H hi p
  by_cases hlt : i < xs.length
  · refine .inr ⟨⟨hlt, xs, xs[xs.length - 1 - i]'(by omega), q, List.getElem?_eq_getElem _⟩, Pv (i + 1), fun σ' H' p' => ⟨xs.length - (i + 1), by omega, rfl, hlt, p'⟩, fun x H' y => ?_⟩
    obtain ⟨e, y⟩ := y
    subst e
    exact hs i x σ _ hlt (y xs q) p
  · have e : i = xs.length := by omega
    subst e
    exact .inl ⟨Nat.le_refl _, hd σ H p⟩
end Tw
/-! an own error made without arguments (the library has it with some: pmk_oex, followed here) -/
namespace L2
open PySem PySem.Spec PyProof.Rows
theorem pmk_oex0 {X : Cx} {p pos : Pos} {CX : CXT} {x : Str} {C fI : Addr} {k : Nat} {fd : FuncData} {ps : List Str} {sp : Sp} (T : OexC X.K C) (iC : PySem.W.findIn X.K (.ref C) "__init__" = some (some (.ref fI))) (tI : PySem.W.typeIn X.K (.ref fI) = some (.type "function"))
    (F1 : FnOk X.prog X.w X.K X.mg X.base CX k fI fd ps sp) (hr : Room (k + 1) X.A) (hb : Binds X.K fd ps []) (hx : Passes CX X (fun _ _ _ => False)) (hg : Gl X x) (hm : X.mg x = some (.ref C)) (hdb : (x == ("__debug__" : Str)) = false := by decide) :
    PMk X (.Call (.Name x p) [] [] pos) (tMkO C sp [] tNil) := by
  intro pins s σ H Q I h
  obtain ⟨nm, q, N, bs, bm, sn, sub, ab, col, dd, k0, k1, k2, k3, k5, hC, hbm⟩ := T.cls
  refine wpAny_Call_Name_kw (ld_glob I hg hm ?_ hdb)
  refine PySem.W.callWith_K0 I.kIn T.kC ?_
  obtain ⟨hz, q1⟩ := h
  show wpAny _ _ (call (.ref C) []) _ _ _
  obtain ⟨hp, g, dr, tk, os⟩ := s
  have hsz : hp.objs.size ≤ hp.objs.size + 1 := Nat.le_succ _
  have hn : H (hp.objs.size + 1) = none := I.hok.fresh hsz
  have hq := q1 (hp.objs.size + 1) hn
  have kk : ∀ b o, hp.get? b = some o → ((hp.push (PySem.W.kdv_tup [])).push (PySem.HandSPX.excO C hp.objs.size)).get? b = some o := fun b o e => Heap.get?_push_of_some _ (Heap.get?_push_of_some _ e)
  have hget : ((hp.push (PySem.W.kdv_tup [])).push (PySem.HandSPX.excO C hp.objs.size)).get? (hp.objs.size + 1) = some (PySem.HandSPX.excO C hp.objs.size) := by heap_get
  have I2 : Inv X pins σ (upd H (hp.objs.size + 1) (exo (hp.objs.size + 1) C none)) ⟨(hp.push (PySem.W.kdv_tup [])).push (PySem.HandSPX.excO C hp.objs.size), g, dr, tk, os⟩ :=
    I.laid (t' := tk) (a := hp.objs.size + 1) (o := exo (hp.objs.size + 1) C none) (h' := (hp.push (PySem.W.kdv_tup [])).push (PySem.HandSPX.excO C hp.objs.size)) kk hsz (exo_ok hget)
  have r2 : Vals (V.ref (hp.objs.size + 1) :: ([] ++ [])) (Value.ref (hp.objs.size + 1) :: ([] ++ [])) := .cons rfl .nil
  have hl : (Value.ref (hp.objs.size + 1) :: [] ++ []).length = ps.length := by
    have e := r2.length
    rw [F1.len _ _ _ _ hq] at e
    exact e.symm
  have hbt := hb ⟨(hp.push (PySem.W.kdv_tup [])).push (PySem.HandSPX.excO C hp.objs.size), g, dr, tk, os⟩ (Value.ref (hp.objs.size + 1) :: []) I2.kIn hl
  rw [List.append_nil] at hbt
  refine wpAny_call (PySem.HandSPX.call_own F.excBase_ValueError (fun Y => PySem.HandSPX.refsVE_contains Y bm hbm) (I.kIn _ _ hC) (PySem.W.looks_findIn I.kIn iC) (fun self => PySem.W.bind_fn I.kIn self tI) (Nat.zero_le _)
    (codeAny_mono (F1.run _ X.stack _ _ ⟨Value.ref (hp.objs.size + 1) :: [], []⟩ [Value.ref (hp.objs.size + 1)] _ _ (fun _ _ _ => False) (hr.make C [] []) (I2.env0.make C [] []) hbt r2 hq) fun r s' hq' => ?_))
  cases r with
  | error er => exact hx pins σ _ _ er s' I2 hq'
  | ok fl =>
    cases fl with
    | ret u =>
      obtain ⟨v, H2, os2, bare2, un2, hok2, rv, ev, d, fs, ea, ed, hd1, q2⟩ := hq'
      subst ev
      obtain ⟨h2, g2, d2, t2, os'⟩ := s'
      exact ⟨rv, mk_end (raises_own T.exC T.tyC) I hsz kk un2 hok2 os2 bare2 ea ed hd1 q2⟩
    | next => exact False.elim hq'
    | brk => exact False.elim hq'
    | cont => exact False.elim hq'
end L2
namespace Tw
open PySem PySem.Spec PyProof.Rows L2
theorem n_ke0 {P : Program} {w : World} {K : PySem.W.Frag} {mg : Str → Option Value} {base : Heap} {j k : Nat} {X : Cx} {NS WS : List (Str × Nat)} {G : List Str} {x nm : Str} {C : Addr} {ps : List Str} {vsOk : List V → Hp → List PyData → Prop} {p pos : Pos}
    (h : Nm P w K mg base j X NS WS G) (D : Ke P w K mg base k x C nm ps vsOk) (hk : k + 1 ≤ j) (hg : x ∈ G) : PMk X (.Call (.Name x p) [] [] pos) (tKe K C nm vsOk tNil) := by
  obtain ⟨h1, h2, h3, h4, h5, hr, _, _, _, _, hgl⟩ := h
  subst h1 h2 h3 h4 h5
  obtain ⟨fI, fd, i1, i2, hb, F⟩ := D.ex
  intro pins s σ H Q I hh
  exact pmk_oex0 D.T i1 i2 F (hr.mono hk) hb pass0 (hgl x hg).1 D.at_ (hgl x hg).2.1 pins s σ H Q I hh
end Tw
namespace Tw
open PySem PySem.Spec PyProof.Rows L2
/-- a def that may raise, called with some keywords -/
structure DxN (P : Program) (w : World) (K : PySem.W.Frag) (mg : Str → Option Value) (base : Heap) (k : Nat) (x : Str) (ps : List Str) (n : Nat) (ks : List Str) (gV : List V → List V → List V) (sp : Sp) : Prop where
  ex : ∃ f fd, ∃ g : List Value → List Value → List Value, mg x = some (.ref f) ∧ PySem.W.keepIn K (.ref f) = true ∧ KBn K fd ps n ks g gV ∧ FnOk P w K mg base (L2.CX P w) k f fd ps sp
end Tw
namespace Tw
open PySem PySem.Spec PyProof.Rows L2
/-! ### makers and static methods that may raise -/
structure Kx (P : Program) (w : World) (K : PySem.W.Frag) (mg : Str → Option Value) (base : Heap) (k : Nat) (C : Addr) (n : Nat) (ps ks : List Str) (gV : List V → List V → List V) (sp : Sp) : Prop where
  ex : ∃ f fd g, Mk K C f ∧ KBn K fd ps (n + 1) ks g gV ∧ FnOk P w K mg base (L2.CX P w) k f fd ps sp
structure Kx0 (P : Program) (w : World) (K : PySem.W.Frag) (mg : Str → Option Value) (base : Heap) (k : Nat) (C : Addr) (ps : List Str) (sp : Sp) : Prop where
  ex : ∃ f fd ds, Mk K C f ∧ Vals [V.int 0] ds ∧ Binds K fd ps ds ∧ FnOk P w K mg base (L2.CX P w) k f fd ps sp
structure Sx (P : Program) (w : World) (K : PySem.W.Frag) (mg : Str → Option Value) (base : Heap) (k : Nat) (C : Addr) (m : Str) (ps : List Str) (sp : Sp) : Prop where
  ex : ∃ q f fd mc rest, ClX.CRead K C mc ∧ PySem.W.findCls K (.ref C) mc m = some (.get (.builtin "staticmethod.__get__") (.ref q) .none (.ref C)) ∧ PySem.W.recIn K q "staticmethod" = some (.ref f :: rest) ∧
    PySem.W.keepIn K (.ref f) = true ∧ Binds K fd ps [] ∧ FnOk P w K mg base (L2.CX P w) k f fd ps sp
structure SxK (P : Program) (w : World) (K : PySem.W.Frag) (mg : Str → Option Value) (base : Heap) (k : Nat) (C : Addr) (m : Str) (ps ks : List Str) (gV : List V → List V → List V) (sp : Sp) : Prop where
  ex : ∃ q f fd mc rest, ∃ g : List Value → List Value → List Value, ClX.CRead K C mc ∧ PySem.W.findCls K (.ref C) mc m = some (.get (.builtin "staticmethod.__get__") (.ref q) .none (.ref C)) ∧ PySem.W.recIn K q "staticmethod" = some (.ref f :: rest) ∧
    PySem.W.keepIn K (.ref f) = true ∧ KBn K fd ps 0 ks g gV ∧ FnOk P w K mg base (L2.CX P w) k f fd ps sp
section
variable {P : Program} {w : World} {K : PySem.W.Frag} {mg : Str → Option Value} {base : Heap} {j k n : Nat} {X : Cx} {NS WS : List (Str × Nat)} {G : List Str} {x m : Str} {C : Addr} {ps ks : List Str} {sp : Sp} {e : Expr} {es : List Expr} {t tk : TA} {p pos apos : Pos} {E : XK} {kws : List Keyword}
end
end Tw
namespace Tw
open PySem PySem.Spec PyProof.Rows L2
/-! ### new instances: keywords alone; the class in a local name -/
section
variable {P : Program} {w : World} {K : PySem.W.Frag} {mg : Str → Option Value} {base : Heap} {j k : Nat} {X : Cx} {NS WS : List (Str × Nat)} {G : List Str} {x : Str} {i : Nat} {p pos : Pos} {e : Expr} {es : List Expr} {kws : List Keyword} {t tk : TA} {ps ks : List Str} {sp : Sp} {C : Addr}
structure Kfk (P : Program) (w : World) (K : PySem.W.Frag) (mg : Str → Option Value) (base : Heap) (k : Nat) (C : Addr) (ps ks : List Str) (gV : List V → List V → List V) (sp : Sp) : Prop where
  ex : ∃ f fd g, Mk K C f ∧ KBn K fd ps 1 ks g gV ∧ FnOk P w K mg base CX0 k f fd ps sp
structure Kdl (P : Program) (w : World) (K : PySem.W.Frag) (mg : Str → Option Value) (base : Heap) (k : Nat) (C : Addr) (ps : List Str) (sp : Sp) : Prop where
  ex : ∃ f fd, Mk K C f ∧ Binds K fd ps [] ∧ FnOk P w K mg base CX0 k f fd ps sp
theorem n_mkA (h : Nm P w K mg base j X NS WS G) (hm : mg x = some (.ref C)) (M : Kdl P w K mg base k C ps sp) (hk : k + 1 ≤ j) (hg : x ∈ G) (ha : PA X (e :: es) t)
    (he : starEach (e :: es) X.env = (false, eval e X.env) :: starEach es X.env := by rfl) (hpl : (backTo pos (starEach es X.env)).any (·.1) = false := by rfl) : PE X (.Call (.Name x p) (e :: es) [] pos) (tMake C sp [] E0 t) := by
  obtain ⟨h1, h2, h3, h4, h5, hr, _, _, _, _, hgl⟩ := h
  subst h1 h2 h3 h4 h5
  obtain ⟨f, fd, hM, hb, F⟩ := M.ex
  exact pe_make hM F (hr.mono hk) (hgl x hg).1 hm hb .nil pass0 ha (hgl x hg).2.1 he hpl
end
end Tw
namespace Tw
open PySem PySem.Spec PyProof.Rows L2
/-! ### comprehensions of objects made anew, over any sequence; enumerate of any sequence -/
theorem lcN {K : PySem.W.Frag} {J : It} {xs : List V} {R : Nat → V → Hp → Prop} {g : TG} {te : TE} {vs : List Nat} {σ : L2.St} {H1 : Hp} {D : Addr} {Qd : Hp → Prop} (hj : SeqJ J (Same H1) xs) (hD : H1 D = none) (hz : xs.length < sizeLine)
    (hR : ∀ i y H H', Same H H' → R i y H → R i y H') (hRl : ∀ i y H zs, R i y H → R i y (upd H D (.lst zs)))
    (he : ∀ (j : Nat) x H' (Qk : V → Hp → Prop), xs[j]? = some x → Same H1 H' → (∃ ys, H' D = some (.lst ys)) → (∀ y H3, Same H' H3 → R j y H3 → Qk y H3) → g x (wipe σ vs) H' fun σ2 H3 => wipe σ2 vs = wipe σ vs ∧ te σ2 H3 Qk)
    (hd : ∀ ys H', Same H1 H' → H' D = some (.lst ys) → ys.length = xs.length → (∀ (i : Nat) y, ys[i]? = some y → R i y H') → Qd H')
    (hgm : ∀ v σ H (A B : L2.St → Hp → Prop), (∀ σ H, A σ H → B σ H) → g v σ H A → g v σ H B) :
    ∃ W : Nat → Nat → Hp → Prop, (∃ m, W 0 m (upd H1 D (.lst []))) ∧ ∀ i' m H, W i' m H →
      (J.stop i' H ∧ Qd H) ∨ (J.go i' H ∧ ∃ Nx : Hp → Prop, (∀ H', Nx H' → ∃ m', m' < m ∧ W (i' + 1) m' H') ∧ ∀ x H', J.yld i' H x H' → g x (wipe σ vs) H' fun σ2 H2 => wipe σ2 vs = wipe σ vs ∧ tYes σ2 H2 fun b H3 =>
        if b = true then te σ2 H3 fun y H4 => ∃ acc, H4 D = some (.lst acc) ∧ acc.length < sizeLine ∧ Nx (upd H4 D (.lst (acc ++ [y]))) else Nx H3) :=
  lcB (K := K) hD hz (fun H j s hj' => hj.go H j _ s (List.getElem?_eq_getElem hj')) (fun H s => hj.stop H s) hR hRl (fun j x H' v H2 Qk hx s1 hys hy kk => by
    obtain ⟨rfl, ex⟩ := hj.yl H' j v H2 s1 hy
    rw [hx] at ex
    obtain rfl := Option.some.inj ex
    exact he j _ _ Qk hx s1 hys kk) hd hgm
/-- an iteration over pairs of place and item, made anew -/
structure EnJ (J : It) (S : Hp → Prop) (xs : List V) : Prop where
  go : ∀ H (j : Nat) x, S H → xs[j]? = some x → J.go j H
  stop : ∀ H, S H → J.stop xs.length H
  yl : ∀ H (j : Nat) v H', S H → J.yld j H v H' → ∃ T x, v = .ref T ∧ H T = none ∧ H' = upd H T (.tup [.int (j : Nat), x]) ∧ xs[j]? = some x
theorem en_T {K : PySem.W.Frag} {a : Addr} {xs : List V} {S : Hp → Prop} (h : ∀ H, S H → SqT K H a xs) : EnJ (IteT K a) S xs :=
  ⟨fun H j x s1 h1 => ⟨xs, x, h H s1, h1⟩, fun H s1 => ⟨xs, h H s1, Nat.le_refl _⟩, fun H j v H' s1 hy => by
    obtain ⟨T, x, e1, e2, e3, e4⟩ := hy
    exact ⟨T, x, e1, e2, e3, e4 xs (h H s1)⟩⟩
theorem en_L {K : PySem.W.Frag} {a : Addr} {xs : List V} {S : Hp → Prop} (h : ∀ H, S H → SqL K H a xs) : EnJ (Ite K a) S xs :=
  ⟨fun H j x s1 h1 => ⟨xs, x, h H s1, h1⟩, fun H s1 => ⟨xs, h H s1, Nat.le_refl _⟩, fun H j v H' s1 hy => by
    obtain ⟨T, x, e1, e2, e3, e4⟩ := hy
    exact ⟨T, x, e1, e2, e3, e4 xs (h H s1)⟩⟩
theorem for_en {J : It} {S : Hp → Prop} {xs : List V} {g : TG} {tb : TS} {D : Ends} {σ : L2.St} {H : Hp} (hj : EnJ J S xs) (Pv : Nat → L2.St → Hp → Prop) (h0 : Pv 0 σ H) (hq : ∀ i σ H, Pv i σ H → S H)
    (hs : ∀ (i : Nat) x T σ H, xs[i]? = some x → Pv i σ H → H T = none → g (.ref T) σ (upd H T (.tup [.int (i : Nat), x])) fun σ2 H2 => tb { D with nx := Pv (i + 1), ct := Pv (i + 1), bk := D.nx } σ2 H2) (hd : ∀ σ H, Pv xs.length σ H → D.nx σ H) :
    ∃ W : Nat → Nat → L2.St → Hp → Prop, (∃ m, W 0 m σ H) ∧ ∀ i m σ H, W i m σ H →
      (J.stop i H ∧ D.nx σ H) ∨ (J.go i H ∧ ∃ N : L2.St → Hp → Prop, (∀ σ' H', N σ' H' → ∃ m', m' < m ∧ W (i + 1) m' σ' H') ∧ ∀ v H', J.yld i H v H' → g v σ H' fun σ2 H2 => tb { D with nx := N, ct := N, bk := D.nx } σ2 H2) := by
  refine ⟨fun i m σ H => m = xs.length - i ∧ i ≤ xs.length ∧ Pv i σ H, ⟨xs.length, rfl, Nat.zero_le _, h0⟩, ?_⟩
  rintro i m σ H ⟨rfl, hi, p⟩
  have q := hq i σ H p
  by_cases c : i < xs.length
  · have hx : xs[i]? = some xs[i] := List.getElem?_eq_getElem c
    refine .inr ⟨hj.go H i _ q hx, Pv (i + 1), fun σ' H' p' => ⟨xs.length - (i + 1), by omega, rfl, c, p'⟩, ?_⟩
    intro v H' hy
    obtain ⟨T, x, rfl, hT, rfl, ex⟩ := hj.yl H i v H' q hy
    exact hs i x T σ H ex p hT
  · have e : i = xs.length := by omega
    subst e
    exact .inl ⟨hj.stop H q, hd σ H p⟩
/-! ### tuple(x), list(x) in a block: what they ask speaks of K alone -/
def rTupC (K : PySem.W.Frag) : List V → Hp → VK → Prop := fun xs H Q => ∃ p ys, xs = [.ref p] ∧ ((SqL K H p ys ∧ ∀ l, H l = none → Q (.ref l) (upd H l (.tup ys))) ∨ (SqT K H p ys ∧ Q (.ref p) H))
def rLisC (K : PySem.W.Frag) : List V → Hp → VK → Prop := fun xs H Q => ∃ p ys, xs = [.ref p] ∧ (SqL K H p ys ∨ SqT K H p ys) ∧ ∀ l, H l = none → Q (.ref l) (upd H l (.lst ys))
section
variable {P : Program} {w : World} {K : PySem.W.Frag} {mg : Str → Option Value} {base : Heap} {j k : Nat} {X : Cx} {NS WS : List (Str × Nat)} {G : List Str} {p pos : Pos} {e : Expr} {es : List Expr} {t : TA}
theorem n_tupC (h : Nm P w K mg base j X NS WS G) (hm : mg "tuple" = none) (hg : ("tuple" : Str) ∈ G) (ha : PA X (e :: es) t)
    (he : starEach (e :: es) X.env = (false, eval e X.env) :: starEach es X.env := by rfl) (hpl : (backTo pos (starEach es X.env)).any (·.1) = false := by rfl) : PE X (.Call (.Name "tuple" p) (e :: es) [] pos) (tCB (rTupC K) t) := by
  have q := h.eK
  subst q
  exact n_t h hm call_tuple_of PyProof.Rows.boot_tuple hg ha he hpl
theorem n_lisC (h : Nm P w K mg base j X NS WS G) (hm : mg "list" = none) (hg : ("list" : Str) ∈ G) (ha : PA X (e :: es) t)
    (he : starEach (e :: es) X.env = (false, eval e X.env) :: starEach es X.env := by rfl) (hpl : (backTo pos (starEach es X.env)).any (·.1) = false := by rfl) : PE X (.Call (.Name "list" p) (e :: es) [] pos) (tCB (rLisC K) t) := by
  have q := h.eK
  subst q
  exact n_t h hm call_list_of PyProof.Rows.boot_list hg ha he hpl
end
end Tw
namespace Tw
open PySem PySem.Spec PyProof.Rows L2
/-! ### tuples of tuples, lists of lists of ints as data; slices in a block; range as a sequence -/
theorem eqv_tus : ∀ M N : List (List Int), PyData.eqvAll (M.map tuD) (N.map tuD) = decide (M = N)
  | [], [] => by simp [PyData.eqvAll]
  | [], e :: r => by simp [PyData.eqvAll]
  | d :: r, [] => by simp [PyData.eqvAll]
  | d :: r, e :: q => by
    rw [List.map_cons, List.map_cons, PyData.eqvAll, eqv_tus r q, eqv_tu]
    by_cases h : d = e <;> by_cases g : r = q <;> simp [h, g]
theorem shaped_tusT (ks : List (List Int)) : SeqAt.shaped (.tuple (ks.map tuD)) = true := by
  have h := depth_tus ks
  unfold SeqAt.shaped
  rw [PyData.canLay0, PyData.depth, lay_tus]
  simp only [Bool.true_and, decide_eq_true_eq]
  omega
theorem eq_tuT {K : PySem.W.Frag} {H : Hp} {a b : Addr} {xs ys : List V} {M N : List (List Int)} {Q : V → Hp → Prop} (ha : H a = some (.tup xs)) (hb : H b = some (.tup ys)) (hx : RowsT H xs M) (hy : RowsT H ys N) (q : Q (.bl (decide (M = N))) H) : rEqD K (.ref a) (.ref b) H Q := by
  refine ⟨_, _, .tup (SqT.of ha) (dp_tus xs M hx), .tup (SqT.of hb) (dp_tus ys N hy), shaped_tusT M, shaped_tusT N, ?_⟩
  rw [PyData.eqv, eqv_tus]
  exact q
def RowsLi (H : Hp) (xs : List V) (ks : List (List Int)) : Prop := xs.length = ks.length ∧ ∀ (i : Nat) v k, xs[i]? = some v → ks[i]? = some k → ∃ a, v = .ref a ∧ H a = some (.lst (k.map V.int))
theorem RowsLi.same {H H' : Hp} {xs : List V} {ks : List (List Int)} (h : RowsLi H xs ks) (e : Same H H') : RowsLi H' xs ks := ⟨h.1, fun i v r h1 h2 => by
  obtain ⟨a, e1, e2⟩ := h.2 i v r h1 h2
  exact ⟨a, e1, e _ _ e2⟩⟩
section
variable {P : Program} {w : World} {K : PySem.W.Frag} {mg : Str → Option Value} {base : Heap} {j k : Nat} {X : Cx} {NS WS : List (Str × Nat)} {G : List Str} {p2 pos : Pos} {e : Expr} {lo hi : Option Expr} {te : TE}
theorem n_slA {tl th : TO} (h : Nm P w K mg base j X NS WS G) (he : PE X e te) (hl : PO X lo tl) (hu : PO X hi th) : PE X (.Subscript e (.Slice lo hi none p2) pos) (tSl (rSlA K) te tl th) := by
  have q := h.eK
  subst q
  exact pe_slice sl_tupA he hl hu
end
end Tw
namespace Tw
open PySem PySem.Spec PyProof.Rows L2
/-! ### a classmethod by its name, as a fact; a value of a base class against an own class -/
end Tw
namespace Tw
open PySem PySem.Spec PyProof.Rows L2
/-! ### one reading or the other; a def with defaults that may raise -/
structure DdX (P : Program) (w : World) (K : PySem.W.Frag) (mg : Str → Option Value) (base : Heap) (k : Nat) (x : Str) (ps : List Str) (dvs : List V) (sp : Sp) : Prop where
  ex : ∃ f fd ds, mg x = some (.ref f) ∧ PySem.W.keepIn K (.ref f) = true ∧ Vals dvs ds ∧ Binds K fd ps ds ∧ FnOk P w K mg base (L2.CX P w) k f fd ps sp
end Tw
namespace Tw
open PySem PySem.Spec PyProof.Rows L2
/-! ### how long the round of the zeros is, at every number of dials -/
section
variable {p : Int} {M : Mach} {st : Int}
end
end Tw
namespace Tw
open PySem PySem.Spec PyProof.Rows L2
/-! ### totals of undone turners and of products -/
structure OkZ (p : Int) (M : Mach) (st : Int) : Prop where
  pr : IsP p
  ok : OkM p (M.length : Int) M
  st0 : 0 ≤ st
  st1 : st < (M.length : Int)
section
variable {p : Int} {M N : Mach} {st sd : Int}
theorem itG_zero : ∀ (n : Nat) (q : Int), itG p M n (fun _ => 0) q = 0
  | 0, q => rfl
  | n + 1, q => by
    show itG p M n (nxG p M fun _ => 0) q = 0
    rw [show (nxG p M fun _ => (0 : Int)) = (fun _ => 0) from funext fun r => sm_zero _]
    exact itG_zero n q
theorem itG_neg (n : Nat) (g : Int → Int) (q : Int) : itG p M n (fun q => -g q) q = -itG p M n g q := by
  have h := itG_add (p := p) (M := M) n g (fun q => -g q) q
  rw [show (fun q => g q + -g q) = (fun _ => (0 : Int)) from funext fun r => by omega, itG_zero] at h
  omega
theorem one_mod (hP : IsP p) : (1 : Int) % p ≠ 0 := by rcases hP with rfl | rfl | rfl | rfl <;> decide
theorem rot_sum (hP : IsP p) (a : Int) (g : Int → Int) : sm (fun x => g (((x : Int) + a) % p)) p.toNat = sm (fun x => g (x : Int)) p.toNat := by
  have h := res_sum hP 1 a (one_mod hP) g
  rw [← h]
  exact sm_ext fun i _ => by rw [Int.mul_one]
theorem tot_und (h : OkZ p M st) (n : Nat) : totN p (undM p M) st n = (-totN p M st n) % p := by
  have hP := h.pr
  have p2 := hP.two
  have hl : ((undM p M).length : Int) = (M.length : Int) := by rw [undM_len]
  have hU : OkM p ((undM p M).length : Int) (undM p M) := by rw [hl]; exact undM_ok hP h.ok
  have z1 : st < ((undM p M).length : Int) := by rw [hl]; exact h.st1
  rw [tot_it hP hU h.st0 z1, tot_it hP h.ok h.st0 h.st1]
  have e1 := itG_mod hP hU n (g := turnM (undM p M)) (k := fun q => -turnM M q) (fun q q0 q1 => by
    rw [turn_und q0 (by rw [hl] at q1; exact q1), Int.emod_emod_of_dvd _ (Int.dvd_refl p)]) st h.st0 z1
  have e2 := itG_map (N := M) (h := fun q => q) hP hU (fun q q0 q1 g => by
    have q1' : q < (M.length : Int) := by rw [hl] at q1; exact q1
    have e : nxG p (undM p M) (fun r => g r) q = nxG p M g q := by
      unfold nxG
      rw [← rot_sum hP (-turnM M q) (fun y => g (goM M q y))]
      refine sm_ext fun x hx => ?_
      show g (goM (undM p M) q (x : Int)) = g (goM M q (((x : Int) + -turnM M q) % p))
      rw [go_und q0 q1' (Int.natCast_nonneg x) (by omega), Int.sub_eq_add_neg]
    rw [e]) n (fun q => -turnM M q) st h.st0 z1
  rw [e1, e2, itG_neg]
  generalize itG p M n (turnM M) st = X
  rcases hP with rfl | rfl | rfl | rfl <;> omega
theorem tot_join (h1 : OkZ p M st) (h2 : OkZ p N sd) {J : Nat} (D : Done p M N (st, sd) J) (n : Nat) : totN p (outJ p M N (st, sd) J) 0 n = (totN p M st n + totN p N sd n) % p := by
  have hP := h1.pr
  have p2 := hP.two
  have h0 : InK M N (st, sd) := ⟨h1.st0, h1.st1, h2.st0, h2.st1⟩
  have hin := keyJ_in hP h1.ok h2.ok h0 J D.go
  have hO := done_ok hP D
  have hl : ((outJ p M N (st, sd) J).length : Int) = (J : Int) := by rw [outJ_len]
  have hJ : 0 < J := by
    rcases Nat.eq_zero_or_pos J with e | e
    · subst e
      have := D.stop
      have z : (keyJ p M N (st, sd) 0).length = 1 := rfl
      omega
    · exact e
  generalize eK : keyJ p M N (st, sd) J = K at hin
  have hK0 : K.getD 0 (0, 0) = (st, sd) := by
    obtain ⟨r, e⟩ := keyJ_pre (p := p) (M := M) (N := N) (st, sd) 0 J
    rw [Nat.zero_add, eK] at e
    rw [e]; rfl
  have hlen : K.length = J := by rw [← eK]; exact D.stop
  have at_ : ∀ q, 0 ≤ q → q < ((outJ p M N (st, sd) J).length : Int) → turnM (outJ p M N (st, sd) J) q = (turnM M (K.getD q.toNat (0, 0)).1 + turnM N (K.getD q.toNat (0, 0)).2) % p ∧
      ∀ x : Nat, x < p.toNat → K.getD (goM (outJ p M N (st, sd) J) q (x : Int)).toNat (0, 0) = nxtP p M N (K.getD q.toNat (0, 0)) x := fun q q0 q1 => by
    have d := done_at D (i := q.toNat) (by rw [hl] at q1; omega) (by omega)
    rw [show ((q.toNat : Nat) : Int) = q by omega, eK] at d
    refine ⟨d.1, fun x hx => ?_⟩
    obtain ⟨m, e⟩ := d.2 x (by omega)
    rw [e, Int.toNat_natCast, List.getD_eq_getElem?_getD, plc_mem m]; rfl
  have z1 : (0 : Int) < ((outJ p M N (st, sd) J).length : Int) := by rw [hl]; omega
  rw [tot_it hP hO (Int.le_refl 0) z1, tot_it hP h1.ok h1.st0 h1.st1, tot_it hP h2.ok h2.st0 h2.st1]
  have e1 := itG_mod hP hO n (g := turnM (outJ p M N (st, sd) J)) (k := fun q => turnM M (K.getD q.toNat (0, 0)).1 + turnM N (K.getD q.toNat (0, 0)).2) (fun q q0 q1 => by
    rw [(at_ q q0 q1).1, Int.emod_emod_of_dvd _ (Int.dvd_refl p)]) 0 (Int.le_refl 0) z1
  have e2 := itG_map (N := M) (h := fun q => (K.getD q.toNat (0, 0)).1) hP hO (fun q q0 q1 g => by
    have e : nxG p (outJ p M N (st, sd) J) (fun r => g (K.getD r.toNat (0, 0)).1) q = nxG p M g (K.getD q.toNat (0, 0)).1 := by
      unfold nxG
      refine sm_ext fun x hx => ?_
      show g (K.getD (goM (outJ p M N (st, sd) J) q (x : Int)).toNat (0, 0)).1 = _
      rw [(at_ q q0 q1).2 x hx]; rfl
    rw [e]) n (turnM M) 0 (Int.le_refl 0) z1
  have e3 := itG_map (N := N) (h := fun q => (K.getD q.toNat (0, 0)).2) hP hO (fun q q0 q1 g => by
    have e : nxG p (outJ p M N (st, sd) J) (fun r => g (K.getD r.toNat (0, 0)).2) q = nxG p N g (K.getD q.toNat (0, 0)).2 := by
      unfold nxG
      rw [← rot_sum hP (turnM M (K.getD q.toNat (0, 0)).1) (fun y => g (goM N (K.getD q.toNat (0, 0)).2 y))]
      refine sm_ext fun x hx => ?_
      show g (K.getD (goM (outJ p M N (st, sd) J) q (x : Int)).toNat (0, 0)).2 = _
      rw [(at_ q q0 q1).2 x hx]; rfl
    rw [e]) n (turnM N) 0 (Int.le_refl 0) z1
  rw [e1, itG_add n (fun q => turnM M (K.getD q.toNat (0, 0)).1) (fun q => turnM N (K.getD q.toNat (0, 0)).2), Int.add_emod, e2, e3]
  show (itG p M n (turnM M) (K.getD 0 (0, 0)).1 % p + itG p N n (turnM N) (K.getD 0 (0, 0)).2 % p) % p = _
  rw [hK0]
end
end Tw
namespace Tw
open PySem PySem.Spec PyProof.Rows L2
/-! ### makers, classmethods, calls of instances and methods that may raise -/
structure KdX (P : Program) (w : World) (K : PySem.W.Frag) (mg : Str → Option Value) (base : Heap) (k : Nat) (C : Addr) (ps : List Str) (sp : Sp) : Prop where
  ex : ∃ f fd, Mk K C f ∧ Binds K fd ps [] ∧ FnOk P w K mg base (L2.CX P w) k f fd ps sp
structure CMx (P : Program) (w : World) (K : PySem.W.Frag) (mg : Str → Option Value) (base : Heap) (k : Nat) (C : Addr) (m : Str) (ps : List Str) (sp : Sp) : Prop where
  ex : ∃ mc q g, ClX.CRead K C mc ∧ ClX.CMet K C mc m q g ∧ FnR P w K mg base (L2.CX P w) k g sp
structure CoX (P : Program) (w : World) (K : PySem.W.Frag) (mg : Str → Option Value) (base : Heap) (k : Nat) (C : Addr) (ps : List Str) (sp : Sp) : Prop where
  ex : ∃ f fd, StX.CallO K C f ∧ Binds K fd ps [] ∧ FnOk P w K mg base (L2.CX P w) k f fd ps sp
structure Mx (P : Program) (w : World) (K : PySem.W.Frag) (mg : Str → Option Value) (base : Heap) (k : Nat) (C : Addr) (m : Str) (ps : List Str) (sp : Sp) : Prop where
  ex : ∃ f fd, Meth K C m f ∧ Binds K fd ps [] ∧ FnOk P w K mg base (L2.CX P w) k f fd ps sp
section
variable {P : Program} {w : World} {K : PySem.W.Frag} {mg : Str → Option Value} {base : Heap} {j k n : Nat} {X : Cx} {NS WS : List (Str × Nat)} {G : List Str} {x m : Str} {C : Addr} {ps ks : List Str} {sp : Sp} {e o : Expr} {es : List Expr} {t tk : TA} {ta : TE} {p pos apos : Pos} {E : XK} {kws : List Keyword}
end
end Tw
namespace Tw
open PySem PySem.Spec PyProof.Rows L2
end Tw
namespace Tw
open PySem PySem.Spec PyProof.Rows L2 LamX NdefX
/-! ### lambdas called with arguments -/
structure LamA (P : Program) (w : World) (K : PySem.W.Frag) (mg : Str → Option Value) (base : Heap) (k : Nat) (f : Addr) (t : List V → Hp → VK → XK → Prop) : Prop where
  run : ∀ (A : Around) (outer : List Env) (s : Shared) (H : Hp) (us : List Value) (vs : List V) (Q : VK) (E : XK), Room k A → Env0 P w K mg base A outer s H → Vals vs us → t vs H Q E → codeAny (model P w) A (.call (.ref f) ⟨us, []⟩) (CR (L2.CX P w) outer P w H s Q E) s
theorem LamA.mono {P : Program} {w : World} {K : PySem.W.Frag} {mg : Str → Option Value} {base : Heap} {j k : Nat} {f : Addr} {t : List V → Hp → VK → XK → Prop} (L : LamA P w K mg base j f t) (h : j ≤ k) : LamA P w K mg base k f t :=
  ⟨fun A outer s H us vs Q E hr e0 r z => L.run A outer s H us vs Q E (hr.mono h) e0 r z⟩
end Tw
namespace Tw
open PySem PySem.Spec PyProof.Rows L2
/-! ### machines explored by keys -/
section
variable {κ : Type} [DecidableEq κ]
def addE (ks : List κ) (c : κ) : List κ := if c ∈ ks then ks else ks ++ [c]
def addsE : List κ → List κ → List κ
  | ks, [] => ks
  | ks, g :: gs => addsE (addE ks g) gs
def plE (ks : List κ) (c : κ) : Nat := ks.idxOf c
def kE (beh : κ → Int × List κ) (a : κ) : Nat → List κ
  | 0 => [a]
  | j + 1 => match (kE beh a j)[j]? with
    | some c => addsE (kE beh a j) (beh c).2
    | none => kE beh a j
theorem plE_app {ks : List κ} {c : κ} (r : List κ) (h : c ∈ ks) : plE (ks ++ r) c = plE ks c := by
  unfold plE
  rw [List.idxOf_append, if_pos h]
theorem plE_snoc {ks : List κ} {c : κ} (h : c ∉ ks) : plE (ks ++ [c]) c = ks.length := by
  unfold plE
  rw [List.idxOf_append, if_neg h]
  simp
/-- the walk goes on up to j -/
def GoE (beh : κ → Int × List κ) (a : κ) (J : Nat) : Prop := ∀ i, i < J → i < (kE beh a i).length
structure DoneE (beh : κ → Int × List κ) (a : κ) (J : Nat) : Prop where
  go : GoE beh a J
  len : (kE beh a J).length = J
  le : J ≤ 240
structure OverE (beh : κ → Int × List κ) (a : κ) (J : Nat) : Prop where
  go : GoE beh a J
  gt : 240 < (kE beh a J).length
end
/-! the dict of the places of ints -/
def PlE (H : Hp) (d : Addr) (ks : List Int) : Prop := ∃ kvs : List (Key × V), H d = some (.dK kvs) ∧ kvs.length ≤ ks.length ∧ ∀ c : Int, valV kvs (.inl c : Key) = if c ∈ ks then some (.int (plE ks c : Nat)) else none
theorem PlE.get {H : Hp} {d : Addr} {ks : List Int} (h : PlE H d ks) (c : Int) : DGet H d (.int c) (if c ∈ ks then some (.int (plE ks c : Nat)) else none) := by
  obtain ⟨kvs, h1, h2, h3⟩ := h
  have g := DGet.k (k := (.inl c : Key)) h1
  rw [h3 c] at g
  exact g
theorem PlE.put {H : Hp} {d : Addr} {ks : List Int} (h : PlE H d ks) {c : Int} (hn : c ∉ ks) (hl : ks.length < 2000) : ∃ kvs, DPut H d (.int c) (.int (ks.length : Nat)) (upd H d (.dK kvs)) ∧ PlE (upd H d (.dK kvs)) d (ks ++ [c]) := by
  obtain ⟨kvs, h1, h2, h3⟩ := h
  refine ⟨putK kvs (.inl c) (.int (ks.length : Nat)), DPut.k (k := (.inl c : Key)) h1 (Nat.lt_of_le_of_lt h2 (Nat.lt_trans hl (by rw [sizeLine_eq]; decide))), _, upd_same, ?_, fun e => ?_⟩
  · have := length_putK kvs (.inl c : Key) (V.int (ks.length : Nat))
    rw [List.length_append]
    show _ ≤ ks.length + 1
    omega
  · rw [valV_put]
    by_cases q : e = c
    · subst q
      rw [if_pos rfl, if_pos (by simp), plE_snoc hn]
    · rw [if_neg (fun z => q (by injection z)), h3 e]
      by_cases m : e ∈ ks
      · rw [if_pos m, if_pos (List.mem_append_left _ m), plE_app _ m]
      · rw [if_neg m, if_neg (fun z => by
          rcases List.mem_append.mp z with z | z
          · exact m z
          · exact q (List.mem_singleton.mp z))]
theorem PlE.same {H H' : Hp} {d : Addr} {ks : List Int} (h : PlE H d ks) (e : Same H H') : PlE H' d ks := by
  obtain ⟨kvs, h1, h2⟩ := h
  exact ⟨kvs, e _ _ h1, h2⟩
theorem PlE.ne {H : Hp} {d a : Addr} {ks : List Int} {xs : List V} (h : PlE H d ks) (e : H a = some (.lst xs)) : a ≠ d := by
  obtain ⟨kvs, h1, h2⟩ := h
  exact ne_of e h1 (by intro q; cases q)
theorem PlE.lst {H : Hp} {d a : Addr} {ks : List Int} {xs ys : List V} (h : PlE H d ks) (e : H a = some (.lst xs)) : PlE (upd H a (.lst ys)) d ks := by
  have n := h.ne e
  obtain ⟨kvs, h1, h2⟩ := h
  exact ⟨kvs, by rw [upd_ne n.symm]; exact h1, h2⟩
end Tw
namespace Tw
open PySem PySem.Spec PyProof.Rows L2 LamX NdefX
/-! ### a lambda with one parameter, captured names and cells of its own -/
structure AccOk (lo n : Nat) (h : Heap) (acc : List (Str × Addr)) (H : Addr → Prop) : Prop where
  inj : ∀ x y c, acc.lookup x = some c → acc.lookup y = some c → x = y
  lt : ∀ y c, acc.lookup y = some c → c < n
  cell : ∀ y c, acc.lookup y = some c → ∃ v, h.IsCell c v
  fr : ∀ y c, acc.lookup y = some c → H c
  ne : ∀ y c, acc.lookup y = some c → c ≠ lo
section
variable {M : Model} {A : Around} {E : Value → Shared → Prop} {s : Shared}
end
structure NScopeC (N : List Str) (x : Str) (fr : List Str) (sc : Scope) : Prop where
  kind : sc.kind = .function
  co : sc.isCoroutine = false
  gen : sc.isGenerator = false
  nd : N.Nodup
  pre : N.take (1 + fr.length) = x :: fr
  par : sc.names.lookup x = some .local ∨ sc.names.lookup x = some .cell
  free : ∀ y ∈ sc.names, y.2 = .free → y.1 ∈ fr
  frk : ∀ y ∈ fr, sc.names.lookup y = some .free
  frc : ∀ y ∈ fr, ∀ p ∈ sc.names, p.2 = .cell → p.1 ≠ y
section
variable {CX : CXT} {P : Program} {w : World} {K : PySem.W.Frag} {mg : Str → Option Value} {base : Heap} {N fr : List Str} {F : LF} {f : Addr} {A : Around} {outer : List Env} {s : Shared} {H : Hp} {E : XK} {x : Str} {u : Value} {v : V} {ws : List (Option V)}
end
end Tw
namespace Tw
open PySem PySem.Spec PyProof.Rows L2 LamX NdefX
/-! ### a call to which the caller's cells are lent, that may raise -/
end Tw
namespace Tw
open PySem PySem.Spec PyProof.Rows L2
/-! ### truth by an own __bool__; one reading of a test or the other -/
structure Ob (P : Program) (w : World) (K : PySem.W.Frag) (mg : Str → Option Value) (base : Heap) (k : Nat) (C : Addr) (ps : List Str) (sp : Sp) : Prop where
  ex : ∃ f fd, PySem.W.findIn K (.ref C) "__bool__" = some (some (.ref f)) ∧ PySem.W.isFn K (.ref f) = true ∧ Binds K fd ps [] ∧ FnOk P w K mg base CX0 k f fd ps sp
end Tw
namespace Tw
open PySem PySem.Spec PyProof.Rows L2
/-! ### defs whose lambdas have a table of code objects: any list of them; a block of statements read in one way or the other -/
def lqC (K : Fg) (d : Str) : Addr := cdA K (He.ga K d)
def lqP (K : Fg) (d : Str) : Addr := He.tabOf K (lqC K d)
structure TbQ (h : Heap) (K : Fg) (d : Str) : Prop where
  hd : PySem.W.codeHdIn K (lqC K d) (lqP K d) = true
  nK : K.lookup (lqP K d) = none
  at_ : h.get? (lqP K d) = some { cls := .none, data := .fields #[] }
structure SaysQ (ds : List Str) (fs : List FdO) (ex : Fg → List Bool) (h : Heap) (K : Fg) : Prop where
  kin : K.In h
  sy : SaysO fs ex K
  tb : ∀ d ∈ ds, TbQ h K d
end Tw
namespace Tw
open PySem PySem.Spec PyProof.Rows L2
/-! ### x * y by an own __mul__ that may raise -/
section
variable {X : Cx} {n : Nat} {C : Addr} {E : XK}
structure OmX (P : Program) (w : World) (K : PySem.W.Frag) (mg : Str → Option Value) (base : Heap) (k : Nat) (C : Addr) (ps : List Str) (sp : Sp) : Prop where
  ex : ∃ f fd, PySem.W.findIn K (.ref C) "__mul__" = some (some (.ref f)) ∧ PySem.W.isFn K (.ref f) = true ∧ Binds K fd ps [] ∧ FnOk P w K mg base (L2.CX P w) k f fd ps sp
  sf : PySem.W.selfFirst K C = true
end
end Tw
namespace Tw
open PySem PySem.Spec PyProof.Rows L2
/-! ### the mathematics of a mixing turner: its keys are the number without its lower figures -/
end Tw
namespace Tw
open PySem PySem.Spec PyProof.Rows L2 LamX NdefX
/-! ### what a lent call leaves where tables of code have grown in it -/
end Tw
namespace Tw
open PySem PySem.Spec PyProof.Rows L2
/-! ### what the turner of a sum and a product does to figures -/
end Tw
namespace Tw
open PySem PySem.Spec PyProof.Rows L2
/-! ### products of machines that go round: the pairs that are reached -/
structure CycM (p : Int) (m : Nat) (M : Mach) : Prop where
  len : M.length = m
  pos : 0 < m
  go : ∀ (s : Nat) (d : Int), s < m → 0 ≤ d → d < p → goM M (s : Int) d = (((s + 1) % m : Nat) : Int)
def cyK (m n : Nat) (i : Nat) : Key2 := (((i % m : Nat) : Int), ((i % n : Nat) : Int))
structure IsL (m n L : Nat) : Prop where
  pos : 0 < L
  at_ : cyK m n L = (0, 0)
  no : ∀ i, 0 < i → i < L → cyK m n i ≠ (0, 0)
section
variable {p : Int} {m n L : Nat} {M N : Mach}
end
end Tw
namespace Tw
open PySem PySem.Spec PyProof.Rows L2 LamX
/-! ### keys that are tuples of ints -/
abbrev KeyL := List Int
def KlAt (H : Hp) (v : V) (c : KeyL) : Prop := ∃ a, v = .ref a ∧ H a = some (.tup (c.map V.int))
def KlsAt (H : Hp) (xs : List V) (ks : List KeyL) : Prop := xs.length = ks.length ∧ ∀ (i : Nat) x k, xs[i]? = some x → ks[i]? = some k → KlAt H x k
theorem KlAt.same {H H' : Hp} {v : V} {k : KeyL} (h : KlAt H v k) (e : Same H H') : KlAt H' v k := by
  obtain ⟨a, rfl, h⟩ := h
  exact ⟨a, rfl, e _ _ h⟩
theorem KlsAt.same {H H' : Hp} {xs : List V} {ks : List KeyL} (h : KlsAt H xs ks) (e : Same H H') : KlsAt H' xs ks := ⟨h.1, fun i x k h1 h2 => (h.2 i x k h1 h2).same e⟩
theorem KlAt.lst {H : Hp} {v : V} {k : KeyL} {r : Addr} {ys zs : List V} (x : KlAt H v k) (h : H r = some (.lst ys)) : KlAt (upd H r (.lst zs)) v k := by
  obtain ⟨a, rfl, ha⟩ := x
  exact ⟨a, rfl, by rw [upd_ne (ne_of ha h (by intro z; cases z))]; exact ha⟩
theorem KlsAt.lst {H : Hp} {xs : List V} {ks : List KeyL} {r : Addr} {ys zs : List V} (x : KlsAt H xs ks) (h : H r = some (.lst ys)) : KlsAt (upd H r (.lst zs)) xs ks := ⟨x.1, fun i v k h1 h2 => (x.2 i v k h1 h2).lst h⟩
theorem KlsAt.snoc {H : Hp} {xs : List V} {ks : List KeyL} {v : V} {k : KeyL} (x : KlsAt H xs ks) (y : KlAt H v k) : KlsAt H (xs ++ [v]) (ks ++ [k]) := ⟨by simp [x.1], fun i w c h1 h2 => by
  by_cases q : i < xs.length
  · rw [List.getElem?_append_left q] at h1
    rw [List.getElem?_append_left (by rw [← x.1]; exact q)] at h2
    exact x.2 i w c h1 h2
  · rw [List.getElem?_append_right (by omega)] at h1
    rw [List.getElem?_append_right (by rw [← x.1]; omega), ← x.1] at h2
    match hj : i - xs.length, h1, h2 with
    | 0, h1, h2 =>
      obtain rfl := (Option.some.inj h1).symm
      obtain rfl := (Option.some.inj h2).symm
      exact y
    | j + 1, h1, h2 => exact absurd h1 (by simp)⟩
def PlEL (H : Hp) (d : Addr) (ks : List KeyL) : Prop := ∃ kvs : List (List Key × V), H d = some (.dT kvs) ∧ kvs.length ≤ ks.length ∧ ∀ c : KeyL, valV kvs (kyL c) = if c ∈ ks then some (.int (plE ks c : Nat)) else none
theorem PlEL.get {H : Hp} {d a : Addr} {ks : List KeyL} (h : PlEL H d ks) {c : KeyL} (ha : H a = some (.tup (c.map V.int))) : DGet H d (.ref a) (if c ∈ ks then some (.int (plE ks c : Nat)) else none) := by
  obtain ⟨kvs, h1, h2, h3⟩ := h
  rw [← kyL_kV] at ha
  have g := DGet.t (k := kyL c) h1 ha
  rw [h3 c] at g
  exact g
theorem PlEL.put {H : Hp} {d a : Addr} {ks : List KeyL} (h : PlEL H d ks) {c : KeyL} (ha : H a = some (.tup (c.map V.int))) (hn : c ∉ ks) (hl : ks.length < 1000) : ∃ kvs, DPut H d (.ref a) (.int (ks.length : Nat)) (upd H d (.dT kvs)) ∧ PlEL (upd H d (.dT kvs)) d (ks ++ [c]) := by
  obtain ⟨kvs, h1, h2, h3⟩ := h
  rw [← kyL_kV] at ha
  refine ⟨putK kvs (kyL c) (.int (ks.length : Nat)), DPut.t (k := kyL c) h1 ha (small1000 (by omega)), _, upd_same, ?_, fun e => ?_⟩
  · have := length_putK kvs (kyL c) (V.int (ks.length : Nat))
    rw [List.length_append]
    show _ ≤ ks.length + 1
    omega
  · rw [valV_put]
    by_cases q : e = c
    · subst q
      rw [if_pos rfl, if_pos (by simp), plE_snoc hn]
    · rw [if_neg (fun z => q (kyL_inj z)), h3 e]
      by_cases m : e ∈ ks
      · rw [if_pos m, if_pos (List.mem_append_left _ m), plE_app _ m]
      · rw [if_neg m, if_neg (fun z => by
          rcases List.mem_append.mp z with z | z
          · exact m z
          · exact q (List.mem_singleton.mp z))]
theorem PlEL.same {H H' : Hp} {d : Addr} {ks : List KeyL} (h : PlEL H d ks) (e : Same H H') : PlEL H' d ks := by
  obtain ⟨kvs, h1, h2⟩ := h
  exact ⟨kvs, e _ _ h1, h2⟩
theorem PlEL.ne {H : Hp} {d a : Addr} {ks : List KeyL} {xs : List V} (h : PlEL H d ks) (e : H a = some (.lst xs)) : a ≠ d := by
  obtain ⟨kvs, h1, h2⟩ := h
  exact ne_of e h1 (by intro q; cases q)
theorem PlEL.lst {H : Hp} {d a : Addr} {ks : List KeyL} {xs ys : List V} (h : PlEL H d ks) (e : H a = some (.lst xs)) : PlEL (upd H a (.lst ys)) d ks := by
  have n := h.ne e
  obtain ⟨kvs, h1, h2⟩ := h
  exact ⟨kvs, by rw [upd_ne n.symm]; exact h1, h2⟩
end Tw
namespace Tw
open PySem PySem.Spec PyProof.Rows L2
/-! ### stirring -/
end Tw
namespace Tw
open PySem PySem.Spec PyProof.Rows L2
/-! ### a tuple's [:-1] -/
end Tw
namespace Tw
open PySem PySem.Spec PyProof.Rows L2
/-! ### the product of two machines, told as keys that are explored -/
section
variable {p : Int} {M N : Mach} {s0 : Key2}
end
/-! ### powers -/
structure OvK (p : Int) (M N : Mach) (s0 : Key2) (J : Nat) : Prop where
  go : ∀ i, i < J → i < (keyJ p M N s0 i).length
  gt : 240 < (keyJ p M N s0 J).length
inductive PwOk (p : Int) (B : Mach) (sB : Int) : Nat → Mach → Int → Prop
  | zero : PwOk p B sB 0 B sB
  | succ {i J : Nat} {X : Mach} {sX : Int} : PwOk p B sB i X sX → Done p X B (sX, sB) J → J ≤ 240 → PwOk p B sB (i + 1) (outJ p X B (sX, sB) J) 0
theorem PwOk.one {p : Int} {B : Mach} {sB : Int} {i : Nat} {X : Mach} {sX : Int} (h : PwOk p B sB i X sX) : ∀ {Y : Mach} {sY : Int}, PwOk p B sB i Y sY → X = Y ∧ sX = sY := by
  induction h with
  | zero => intro Y sY g; cases g; exact ⟨rfl, rfl⟩
  | succ h D hJ ih =>
    intro Y sY g
    cases g with
    | succ g D2 hJ2 =>
      obtain ⟨rfl, rfl⟩ := ih g
      obtain rfl := D.one D2
      exact ⟨rfl, rfl⟩
end Tw
namespace Tw
open PySem PySem.Spec PyProof.Rows L2
/-! ### o.m(k = v, ..), keywords alone, that may raise -/
structure MKX (P : Program) (w : World) (K : PySem.W.Frag) (mg : Str → Option Value) (base : Heap) (k : Nat) (C : Addr) (m : Str) (ps ks : List Str) (gV : List V → List V → List V) (sp : Sp) : Prop where
  ex : ∃ f fd g, Meth K C m f ∧ KBn K fd ps 1 ks g gV ∧ FnOk P w K mg base (L2.CX P w) k f fd ps sp
section
variable {P : Program} {w : World} {K : PySem.W.Frag} {mg : Str → Option Value} {base : Heap} {j k : Nat} {X : Cx} {NS WS : List (Str × Nat)} {G : List Str} {m : Str} {C : Addr} {ps ks : List Str} {sp : Sp} {o : Expr} {tk : TA} {ta : TE} {pos apos : Pos} {E : XK} {kws : List Keyword}
end
end Tw
/-! own errors over any built-in base: what T28, T29, T44, T51 say over ValueError -/
namespace L2
open PySem PySem.Spec PyProof.Rows
structure BaseE (B newId initId : String) (bmB : List Value) : Prop where
  base : ExcBaseFacts B newId initId bmB
  store : StoreFacts B bmB "object.__setattr__" "object"
  sup : PySem.W.KxsFacts B initId
structure OexG (newId : String) (bmB : List Value) (K : PySem.W.Frag) (C : Addr) : Prop where
  cls : ∃ nm q N bs bm sn sub ab col dd k0 k1 k2 k3 k5, K.lookup C = some (excClassObj nm q C N bs bm true sn sub ab col dd k0 k1 k2 k3 k5 newId) ∧ PySem.W.excTail bmB bm = true
  sa : PySem.W.findIn K (.ref C) "__setattr__" = some (some (.builtin "object.__setattr__"))
  exC : PySem.W.subIn K (.ref C) (.type "BaseException") = some true
  tyC : PySem.W.typeIn K (.ref C) = some (.type "type")
  kC : PySem.W.keepIn K (.ref C) = true
section
variable {B newId initId : String} {bmB : List Value} {K : PySem.W.Frag} {C : Addr}
theorem OexG.look (T : OexG newId bmB K C) : ∃ cd bm, PySem.W.clsIn K C = some cd ∧ cd.mro = .ref C :: bm ∧ PySem.W.excTail bmB bm = true ∧ cd.hasDict = true := by
  obtain ⟨nm, q, N, bs, bm, sn, sub, ab, col, dd, k0, k1, k2, k3, k5, hC, hbm⟩ := T.cls
  refine ⟨{ name := nm, bases := bs, mro := .ref C :: bm, ns := N, qualname := q, hasDict := true, slotNames := sn, subclasses := sub, abstract := ab, collection := col, hasDel := false }, bm, ?_, rfl, hbm, rfl⟩
  unfold PySem.W.clsIn; rw [hC] <;> rfl
theorem OexG.over (T : OexG newId bmB K C) : PySem.W.excOver K C bmB = true := by
  obtain ⟨cd, bm, h1, h2, h3, _⟩ := T.look
  unfold PySem.W.excOver
  rw [h1, Option.any_some, h2]
  simp [h3]
end
section
open PySem.W Builtin Builtin.ObjectAttr
variable {prog : Program} {w : World} {A : Around} {R : Result → Shared → Prop} {hp : Heap} {g : Array GenState} {d : Drawn} {t : Nat} {os : OsState} {B newId initId : String} {bmB : List Value} {K : PySem.W.Frag} {name : Str} {tk : Tok} {v : Value} {x C dx : Addr} {fv : Array Value}
end
section
variable {X : Cx} {pins : List (Addr × Obj)} {σ : St} {H : Hp} {s : Shared} {a C dx : Addr} {f : Str} {y : V} {u : Value} {fs : List (Str × V)} {Q : Unit → Shared → Prop} {E : Value → Shared → Prop} {A : Around} {B newId initId : String} {bmB : List Value}
end
section
variable {X : Cx} {o e : Expr} {es : List Expr} {to te : TE} {ta : TA} {f : Str} {p p' pos : Pos} {B newId initId : String} {bmB : List Value}
end
end L2
namespace Tw
open PySem PySem.Spec PyProof.Rows L2
section
variable {CX : CXT} {P : Program} {w : World} {K : PySem.W.Frag} {mg : Str → Option Value} {base : Heap} {N : List Str} {x qual : Str} {st : Stmt} {f C cc cda a : Addr} {fd : FuncData} {A : Around} {outer : List Env} {s0 s : Shared} {H0 H : Hp} {E : XK} {σ : L2.St} {e : Expr} {es : List Expr} {ta : TA} {p0 p1 p2 p3 p4 : Pos} {R : Flow → Shared → Prop} {B newId initId : String} {bmB : List Value}
end
section
variable {CX : CXT} {P : Program} {w : World} {K : PySem.W.Frag} {mg : Str → Option Value} {base : Heap} {N ps : List Str} {x qual : Str} {st : Stmt} {f C cc cda : Addr} {fd : FuncData} {e : Expr} {es : List Expr} {p0 p1 p2 p3 p4 : Pos} {rest : List Stmt} {k : Nat} {sp : Sp} {B newId initId : String} {bmB : List Value}
end
structure KeG (newId : String) (bmB : List Value) (P : Program) (w : World) (K : PySem.W.Frag) (mg : Str → Option Value) (base : Heap) (k : Nat) (x : Str) (C : Addr) (nm : Str) (ps : List Str) (vsOk : List V → Hp → List PyData → Prop) : Prop where
  at_ : mg x = some (.ref C)
  T : OexG newId bmB K C
  ex : ∃ fI fd, PySem.W.findIn K (.ref C) "__init__" = some (some (.ref fI)) ∧ PySem.W.typeIn K (.ref fI) = some (.type "function") ∧ Binds K fd ps [] ∧ FnOk P w K mg base CX0 k fI fd ps (spErr K C nm vsOk)
section
variable {P : Program} {w : World} {K : PySem.W.Frag} {mg : Str → Option Value} {base : Heap} {j k : Nat} {X : Cx} {NS WS : List (Str × Nat)} {G : List Str} {x nm : Str} {C : Addr} {ps : List Str} {vsOk : List V → Hp → List PyData → Prop} {e : Expr} {es : List Expr} {t : TA} {p pos : Pos} {B newId initId : String} {bmB : List Value}
end
end Tw
namespace Tw
open PySem PySem.Spec PyProof.Rows L2
/-! ### zip of a list and a tuple -/
def ItzN (K : PySem.W.Frag) (a b : Addr) : It where
  go := fun i H => ∃ (xs ys : List V) (x y : V), SqL K H a xs ∧ SqT K H b ys ∧ xs[i]? = some x ∧ ys[i]? = some y
  yld := fun i H v H' => ∃ T x y, v = .ref T ∧ H T = none ∧ H' = upd H T (.tup [x, y]) ∧ (∀ xs, SqL K H a xs → xs[i]? = some x) ∧ (∀ ys, SqT K H b ys → ys[i]? = some y)
  stop := fun i H => ∃ xs ys : List V, SqL K H a xs ∧ SqT K H b ys ∧ xs.length = ys.length ∧ xs.length = i
def zN (a b : Addr) (N : Nat) (i : Nat) (h : Heap) : Prop :=
  IsZip h (N + 4) (N + 2) (N + 3) .none ∧ IsTupOf2 h (N + 2) (.ref N) (.ref (N + 1)) ∧ (∃ x y, IsTupOf2 h (N + 3) x y) ∧ h.IsListIter N a i ∧ h.IsTupleIter (N + 1) b i
theorem fiveN {N c : Nat} (h : c ∈ [N + 4, N + 2, N + 3, N, N + 1]) : c = N + 4 ∨ c = N + 2 ∨ c = N + 3 ∨ c = N ∨ c = N + 1 := by simpa using h
theorem fiveLeN {N c : Nat} (h : c ∈ [N + 4, N + 2, N + 3, N, N + 1]) : c ≤ N + 4 ∧ N ≤ c := by
  rcases fiveN h with q | q | q | q | q <;> (rw [q]; omega)
theorem turn_zipN {P : Program} {w : World} {K : PySem.W.Frag} {elts : List Expr} {kk : Nat} {tpos : Pos} {a b N : Nat} (la : a < N) (lb : b < N) :
    Turn P w K (.Tuple elts kk tpos) (ItzN K a b) [N + 4, N + 2, N + 3, N, N + 1] (N + 4) (zN a b N) where
  mem := by simp
  obj := fun i h st c hc => by
    obtain ⟨hz, hTI, ⟨x, y, hTO⟩, ⟨o1, e1, _, d1⟩, ⟨o2, e2, _, d2⟩⟩ := st
    rcases fiveN hc with q | q | q | q | q <;> subst q
    · exact ⟨_, hz, fun v q => nomatch q⟩
    · exact ⟨_, hTI, fun v q => nomatch q⟩
    · exact ⟨_, hTO, fun v q => nomatch q⟩
    · exact ⟨o1, e1, fun v q => by rw [d1] at q; cases q⟩
    · exact ⟨o2, e2, fun v q => by rw [d2] at q; cases q⟩
  keep := fun i h h' st k => by
    obtain ⟨hz, hTI, ⟨x, y, hTO⟩, h1, h2⟩ := st
    exact ⟨k _ (by simp) _ hz, k _ (by simp) _ hTI, ⟨x, y, k _ (by simp) _ hTO⟩,
      h1.at fun o q => k _ (by simp) o q, h2.at fun o q => k _ (by simp) o q⟩
  item := by
    intro X hP hw hK hc i pins s σ H E I hf st hg
    subst hP hw hK
    obtain ⟨hz, hTI, ⟨x0, y0, hTO⟩, h1, h2⟩ := st
    obtain ⟨xs, ys, x, y, hqx, hqy, hx, hy⟩ := hg
    obtain ⟨its, rv, p, _⟩ := I.list hqx
    obtain ⟨its2, rv2, p2, _⟩ := I.tuple hqy
    obtain ⟨u, hu, ru⟩ := rv.get hx
    obtain ⟨u2, hu2, ru2⟩ := rv2.get hy
    have l1 : i < its.toArray.size := by simpa using (List.getElem?_eq_some_iff.mp hu).1
    have l2 : i < its2.toArray.size := by simpa using (List.getElem?_eq_some_iff.mp hu2).1
    have hh : X.A.in1.handled = none := I.ok.hd hc
    have hzl : N + 4 < s.heap.objs.size := Heap.lt_size hz
    have hN : N < s.heap.objs.size := Nat.lt_of_le_of_lt (Nat.le_add_right N 4) hzl
    have S := zip_sep2 (N := N) (fp1 := [a]) (fp2 := [b]) (fun c hc => by rw [List.mem_singleton.mp hc]; exact la) (fun c hc => by rw [List.mem_singleton.mp hc]; exact lb)
    refine wpAny_pyNext_zipD2_item S (Draws.list hh N a (Nat.ne_of_lt la) its.toArray) (Draws.tuple hh (N + 1) b (Nat.ne_of_lt (Nat.lt_succ_of_lt lb)) its2.toArray) hz hTI hTO
      ⟨h1, p.isList⟩ ⟨h2, (show s.heap.IsTuple b its2.toArray from p2)⟩ l1 l2 fun x1 x2 h' tk y1 y2 z' TO' s1' s2' hT hsz hk => ?_
    have e1 : x1 = u := by simpa [hu] using y1.symm
    have e2 : x2 = u2 := by simpa [hu2] using y2.symm
    subst e1 e2
    refine ⟨_, rfl, wpAny_letOwnedTupleGo_zip (s := { s with heap := h', toks := tk }) z' fun h'' z'' sb => ?_⟩
    have hT2 := (sb.2 _ (Nat.ne_of_gt hzl)).trans hT
    have new : ObjOk X.prog X.w (upd H s.heap.objs.size (.tup [x, y])) h'' s.heap.objs.size (.tup [x, y]) :=
      ⟨by show 2 ≤ sizeLine; decide, [x1, x2], .cons ru (.cons ru2 .nil), _, hT2, rfl, _, rfl⟩
    have kk : ∀ c o, c ∉ [N + 4, N + 2, N + 3, N, N + 1] → s.heap.get? c = some o → h''.get? c = some o := fun c o hb q =>
      (sb.2 c (fun e => hb (by simp [e]))).trans (hk c o (fun e => hb (by simp [e])) (fun e => hb (by simp [e])) (fun e => hb (by simp [e])) (fun e => hb (by simp [e])) q)
    have I1 := I.turnedNew (t' := tk) kk hf (Nat.le_refl _) new
    refine ⟨.ref s.heap.objs.size, _, I1, rfl, ⟨_, x, y, rfl, I.hok.fresh (Nat.le_refl _), rfl, fun l hl => by rw [I.list_inj hl hqx]; exact hx, fun l hl => by rw [I.tuple_inj hl hqy]; exact hy⟩, ⟨z'', ?_, ⟨x1, x2, ?_⟩, ?_, ?_⟩, fun c hcm => ?_⟩
    · have n1 : N + 2 ≠ N + 4 := by omega
      exact (sb.2 _ n1).trans (hk _ _ n1 (by show (N + 2 : Nat) ≠ N + 3; omega) (by show (N + 2 : Nat) ≠ N; omega) (by show (N + 2 : Nat) ≠ N + 1; omega) hTI)
    · exact (sb.2 _ (by show (N + 3 : Nat) ≠ N + 4; omega)).trans TO'
    · exact s1'.1.at fun o q => (sb.2 _ (by show (N : Nat) ≠ N + 4; omega)).trans q
    · exact s2'.1.at fun o q => (sb.2 _ (by show (N + 1 : Nat) ≠ N + 4; omega)).trans q
    · have hlt : c < s.heap.objs.size := Nat.lt_of_le_of_lt (fiveLeN hcm).1 hzl
      rw [upd_ne (Nat.ne_of_lt hlt)]
      exact (hf c hcm).1
  done := by
    intro X hP hw hK hc i pins s σ H E I hf st hg
    subst hP hw hK
    obtain ⟨hz, hTI, ⟨x0, y0, hTO⟩, h1, h2⟩ := st
    obtain ⟨xs, ys, hqx, hqy, he, hi⟩ := hg
    obtain ⟨its, rv, p, _⟩ := I.list hqx
    obtain ⟨its2, rv2, p2, _⟩ := I.tuple hqy
    have l1 := rv.length
    have l2 := rv2.length
    have e1 : i = its.toArray.size := by simp; omega
    have e2 : i = its2.toArray.size := by simp; omega
    have hh : X.A.in1.handled = none := I.ok.hd hc
    have S := zip_sep2 (N := N) (fp1 := [a]) (fp2 := [b]) (fun c hc => by rw [List.mem_singleton.mp hc]; exact la) (fun c hc => by rw [List.mem_singleton.mp hc]; exact lb)
    refine wpAny_pyNext_zipD2_end S (Draws.list hh N a (Nat.ne_of_lt la) its.toArray) (Draws.tuple hh (N + 1) b (Nat.ne_of_lt (Nat.lt_succ_of_lt lb)) its2.toArray) hz hTI hTO
      ⟨h1, p.isList⟩ ⟨h2, (show s.heap.IsTuple b its2.toArray from p2)⟩ (Nat.le_of_eq e1) (Nat.le_of_eq e2) (.inl e1) fun h' tk hk => ⟨rfl, I.turnedL (t' := tk) (ch := [N + 4, N + 2, N + 3, N, N + 1]) (fun c o hb q => ?_) hf⟩
    exact hk c o (fun e => hb (by simp [e])) (fun e => hb (by simp [e])) (fun e => hb (by simp [e])) (fun e => hb (by simp [e])) q
  self := fun A i s Q E st h => wpAny_pyIter_zip st.1 h
def iZipN (K : PySem.W.Frag) (ta : TA) : TI := fun σ H R => ta σ H fun vs H1 => ∃ a b xs ys, vs = [.ref a, .ref b] ∧ SqL K H1 a xs ∧ SqT K H1 b ys ∧ R (ItzN K a b) H1
theorem pi_zipN {X : Cx} {e e2 : Expr} {ta : TA} {p pos tpos : Pos} {elts : List Expr} {kk : Nat} (hg : Gl X "zip") (hm : X.mg "zip" = none) (ha : PA X [e, e2] ta)
    (hs : starEach [e, e2] X.env = (false, eval e X.env) :: starEach [e2] X.env := by rfl) (hpl : (backTo pos (starEach [e2] X.env)).any (·.1) = false := by rfl) :
    PI X (.Tuple elts kk tpos) (.Call (.Name "zip" p) [e, e2] [] pos) (iZipN X.K ta) := by
  refine ⟨fun pins s σ H R I h => ?_⟩
  refine Call_ (ld_blt I hg hm boot_zip (callWith_type1 (thn (ha.run pos pins s σ H _ I h) fun us s1 ⟨vs, H1, I1, r1, q1⟩ => ?_) hs hpl))
  obtain ⟨a, b, xs, ys, rfl, hqx, hqy, q⟩ := q1
  obtain ⟨u1, u2, rfl, r1, r2⟩ : ∃ u1 u2, us = [u1, u2] ∧ RelV (.ref a) u1 ∧ RelV (.ref b) u2 := by
    cases r1 with
    | cons r rr => cases rr with
      | cons r' rr => cases rr; exact ⟨_, _, rfl, r, r'⟩
  cases r1
  cases r2
  obtain ⟨its, rv, p1, _⟩ := I1.list hqx
  obtain ⟨its2, rv2, p2, _⟩ := I1.tuple hqy
  have lb : b < s1.heap.objs.size := by
    obtain ⟨o, ho, _⟩ := id p2
    exact Heap.lt_size ho
  refine zip_begins2 (begins_list a its.toArray) (begins_tuple b its2.toArray) p1.isList (show s1.heap.IsTuple b its2.toArray from p2) fun h' hz hTI hTO h1 h2 hsz hk => wpAny_pyIter_zip hz ?_
  refine ⟨s1.heap.objs.size + 4, _, zN a b s1.heap.objs.size, ItzN X.K a b, H1, rfl, I1.kept (t' := s1.toks) hk, turn_zipN p1.lt lb, ⟨hz, hTI, ⟨_, _, hTO⟩, ⟨_, h1, rfl, rfl⟩, ⟨_, h2, rfl, rfl⟩⟩, fun c hc => ?_, q⟩
  have hle : s1.heap.objs.size ≤ c := (fiveLeN hc).2
  exact I1.fpOk hle (I1.hok.fresh hle)
theorem pj_N {K : PySem.W.Frag} {a b : Addr} {xs ys : List V} {S : Hp → Prop} (hl : xs.length = ys.length) (h : ∀ H, S H → SqL K H a xs ∧ SqT K H b ys) : PairsJ (ItzN K a b) S xs ys := by
  refine ⟨fun H j x y s1 h1 h2 => ⟨xs, ys, x, y, (h H s1).1, (h H s1).2, h1, h2⟩, fun H s1 => ⟨xs, ys, (h H s1).1, (h H s1).2, hl, rfl⟩, fun H j v H' s1 hy => ?_⟩
  obtain ⟨T, u, z, e1, e2, e3, e4, e5⟩ := hy
  exact ⟨T, u, z, e1, e2, e3, e4 xs (h H s1).1, e5 ys (h H s1).2⟩
section
variable {P : Program} {w : World} {K : PySem.W.Frag} {mg : Str → Option Value} {base : Heap} {j k : Nat} {X : Cx} {NS WS NS' WS' : List (Str × Nat)} {G G' : List Str} {N : List Str} {scD scope : Scope} {pos spos p : Pos}
theorem n_zipN {e e2 : Expr} {t : TA} {elts : List Expr} {kk : Nat} {tpos : Pos} (h : Nm P w K mg base j X NS WS G) (hm : mg "zip" = none) (hg : ("zip" : Str) ∈ G) (ha : PA X [e, e2] t)
    (hs : starEach [e, e2] X.env = (false, eval e X.env) :: starEach [e2] X.env := by rfl) (hpl : (backTo pos (starEach [e2] X.env)).any (·.1) = false := by rfl) : PI X (.Tuple elts kk tpos) (.Call (.Name "zip" p) [e, e2] [] pos) (iZipN K t) := by
  have q := h.eK
  subst q
  exact pi_zipN (h.gl _ hg).1 (by rw [h.em]; exact hm) ha hs hpl
/-- [elt for tg in iter for tg1 in iter1] -/
theorem n_lc2 {elt tg iter tg1 iter1 : Expr} {own : List (Str × Nat)} {vs1 : List Nat} {wi wi1 : TI} {g g1 : TG} {te : TE} (h : Nm P w K mg base j X NS WS G) (eN : X.N = N) (eS : X.env.scope = scD) (hk : blkC N scD scope own = true) (hb : nmbB N NS' WS' G' scD scope = true) (hv : ∀ i ∈ vs1, i ∈ own.map (·.2)) (hi : PI X tg iter wi)
    (hg : ∀ X', Nm P w K mg base j X' NS' WS' G' → PG X' tg g) (hi1 : ∀ X', Nm P w K mg base j X' NS' WS' G' → PI X' tg1 iter1 wi1) (hg1 : ∀ X', Nm P w K mg base j X' NS' WS' G' → PG X' tg1 g1) (he : ∀ X', Nm P w K mg base j X' NS' WS' G' → PE X' elt te)
    (hs : ∀ x, foldedSetIterable iter X.env x = pure x := by intro _; rfl) (hs1 : ∀ env x, foldedSetIterable iter1 env x = pure x := by intro _ _; rfl) :
    PE X (.ListComp elt [⟨tg, iter, [], 0⟩, ⟨tg1, iter1, [], 0⟩] scope pos) (tLc2 wi g tYes wi1 g1 tYes te (own.map (·.2)) vs1) :=
  pe_lc2 h.calm h.nd hi (by subst eN eS; exact blkOk_by hk) hv (fun s H C cl fp => hg _ (nm_blk h eN eS hb)) (fun _ _ _ _ _ => pts_nil) (fun s H C cl fp => hi1 _ (nm_blk h eN eS hb)) (fun s H C cl fp => hg1 _ (nm_blk h eN eS hb)) (fun _ _ _ _ _ => pts_nil) (fun s H C cl fp => he _ (nm_blk h eN eS hb)) hs hs1
end
/-- over a range and pairs: the items one by one -/
theorem lc2_rp {xs ys fs : List V} {n i1 : Nat} {g1 : TG} {te : TE} {wi1 : TI} {vs vs1 : List Nat} {σ : L2.St} {H1 : Hp} {D : Addr} {Qd : Hp → Prop} (hD : H1 D = none) (hl : fs.length = n * xs.length) (hlen : xs.length = ys.length) (hz : fs.length < sizeLine)
    (hw : ∀ x, wipe ((wipe σ vs).set i1 (some x)) vs = wipe σ vs)
    (hin : ∀ (i : Nat) H (R : It → Hp → Prop), i < n → Same H1 H → (∀ J H', Same H H' → PairsJ J (Same H1) xs ys → R J H') → wi1 ((wipe σ vs).set i1 (some (.int (0 + (i : Int))))) H R)
    (he : ∀ (i j : Nat) x y z T H (Qk : V → Hp → Prop), i < n → xs[j]? = some x → ys[j]? = some y → fs[i * xs.length + j]? = some z → Same H1 H → H T = none → (∀ H2, Same (upd H T (.tup [x, y])) H2 → Qk z H2) → g1 (.ref T) (wipe ((wipe σ vs).set i1 (some (.int (0 + (i : Int))))) vs1) (upd H T (.tup [x, y])) fun σ3 H5 => wipe σ3 vs1 = wipe ((wipe σ vs).set i1 (some (.int (0 + (i : Int))))) vs1 ∧ te σ3 H5 Qk)
    (hd : ∀ H', Same H1 H' → H' D = some (.lst fs) → Qd H')
    (hgm : ∀ v σ H (A B : L2.St → Hp → Prop), (∀ σ H, A σ H → B σ H) → g1 v σ H A → g1 v σ H B) :
    ∃ W : Nat → Nat → Hp → Prop, (∃ m, W 0 m (upd H1 D (.lst []))) ∧ ∀ i m H, W i m H →
      ((Itr 0 n).stop i H ∧ Qd H) ∨ ((Itr 0 n).go i H ∧ ∃ Nx : Hp → Prop, (∀ H', Nx H' → ∃ m', m' < m ∧ W (i + 1) m' H') ∧ ∀ x H', (Itr 0 n).yld i H x H' → gName i1 x (wipe σ vs) H' fun σ2 H2 => wipe σ2 vs = wipe σ vs ∧ tYes σ2 H2 fun b H3 =>
        if b = true then wi1 σ2 H3 fun J1 H4 => ∃ W1 : Nat → Nat → Hp → Prop, (∃ m, W1 0 m H4) ∧ ∀ j k H, W1 j k H →
          (J1.stop j H ∧ Nx H) ∨ (J1.go j H ∧ ∃ Nx1 : Hp → Prop, (∀ H', Nx1 H' → ∃ k', k' < k ∧ W1 (j + 1) k' H') ∧ ∀ x H', J1.yld j H x H' → g1 x (wipe σ2 vs1) H' fun σ3 H5 => wipe σ3 vs1 = wipe σ2 vs1 ∧ tYes σ3 H5 fun b H6 =>
            if b = true then te σ3 H6 fun y H7 => ∃ acc, H7 D = some (.lst acc) ∧ acc.length < sizeLine ∧ Nx1 (upd H7 D (.lst (acc ++ [y]))) else Nx1 H6)
        else Nx H3) := by
  have hmul : ∀ i j, i < n → j < xs.length → i * xs.length + j < fs.length := fun i j hi hj => by
    rw [hl]
    calc i * xs.length + j < i * xs.length + xs.length := Nat.add_lt_add_left hj _
      _ = (i + 1) * xs.length := by rw [Nat.add_mul, Nat.one_mul]
      _ ≤ n * xs.length := Nat.mul_le_mul_right _ hi
  refine ⟨fun i m H => m = n - i ∧ i ≤ n ∧ Same H1 H ∧ H D = some (.lst (fs.take (i * xs.length))), ⟨n, by simp, Nat.zero_le _, same_new hD, by rw [upd_same, Nat.zero_mul]; rfl⟩, ?_⟩
  rintro i m H ⟨rfl, hi, s1, hDl⟩
  by_cases c : i < n
  · refine .inr ⟨c, fun H' => Same H1 H' ∧ H' D = some (.lst (fs.take ((i + 1) * xs.length))), fun H' p => ⟨n - (i + 1), by omega, rfl, c, p⟩, fun x H' y => ?_⟩
    obtain ⟨e1, e2⟩ := y
    subst e1 e2
    refine ⟨hw _, yes_ ?_⟩
    refine hin i _ _ c s1 fun J H4 s4 pj => ?_
    refine ⟨fun j k H => k = xs.length - j ∧ j ≤ xs.length ∧ Same H1 H ∧ H D = some (.lst (fs.take (i * xs.length + j))), ⟨xs.length, by simp, Nat.zero_le _, Same.trans s1 s4, by rw [Nat.add_zero]; exact s4 _ _ hDl⟩, ?_⟩
    rintro j k H5 ⟨rfl, hj, s5, hD5⟩
    by_cases cj : j < xs.length
    · have hx : xs[j]? = some xs[j] := List.getElem?_eq_getElem cj
      have hy : ys[j]? = some ys[j] := List.getElem?_eq_getElem (by omega)
      have hlt := hmul i j c cj
      have hf : fs[i * xs.length + j]? = some fs[i * xs.length + j] := List.getElem?_eq_getElem hlt
      refine .inr ⟨pj.go H5 j _ _ s5 hx hy, fun H' => Same H1 H' ∧ H' D = some (.lst (fs.take (i * xs.length + (j + 1)))), fun H' p => ⟨xs.length - (j + 1), by omega, rfl, cj, p⟩, fun v H' yl => ?_⟩
      obtain ⟨T, x, y, rfl, hT', rfl, ex, ey⟩ := pj.yl H5 j v H' s5 yl
      have s2 : Same H5 (upd H5 T (.tup [x, y])) := same_new hT'
      refine hgm _ _ _ _ _ (fun σ2 H2 p => ⟨p.1, yes_ p.2⟩) (he i j x y _ T H5 _ c ex ey hf s5 hT' fun H2 s3 => ⟨_, s3 _ _ (s2 _ _ hD5), ?_, same_put (Same.trans (Same.trans s5 s2) s3) hD, ?_⟩)
      · rw [List.length_take]; omega
      · rw [upd_same, ← Nat.add_assoc, List.take_add_one, hf]; rfl
    · have e : j = xs.length := by omega
      subst e
      exact .inl ⟨pj.stop H5 s5, s5, by rw [Nat.add_mul, Nat.one_mul]; exact hD5⟩
  · have e : i = n := by omega
    subst e
    rw [← hl, List.take_length] at hDl
    exact .inl ⟨Nat.le_refl _, hd H s1 hDl⟩
/-- over a range and single items: the items one by one -/
theorem lc2_rs {xs fs : List V} {n i1 : Nat} {g1 : TG} {te : TE} {wi1 : TI} {vs vs1 : List Nat} {σ : L2.St} {H1 : Hp} {D : Addr} {Qd : Hp → Prop} (hD : H1 D = none) (hl : fs.length = n * xs.length) (hz : fs.length < sizeLine)
    (hw : ∀ x, wipe ((wipe σ vs).set i1 (some x)) vs = wipe σ vs)
    (hin : ∀ (i : Nat) H (R : It → Hp → Prop), i < n → Same H1 H → (∀ J H', Same H H' → SeqJ J (Same H1) xs → R J H') → wi1 ((wipe σ vs).set i1 (some (.int (0 + (i : Int))))) H R)
    (he : ∀ (i j : Nat) x z H (Qk : V → Hp → Prop), i < n → xs[j]? = some x → fs[i * xs.length + j]? = some z → Same H1 H → (∀ H2, Same H H2 → Qk z H2) → g1 x (wipe ((wipe σ vs).set i1 (some (.int (0 + (i : Int))))) vs1) H fun σ3 H5 => wipe σ3 vs1 = wipe ((wipe σ vs).set i1 (some (.int (0 + (i : Int))))) vs1 ∧ te σ3 H5 Qk)
    (hd : ∀ H', Same H1 H' → H' D = some (.lst fs) → Qd H')
    (hgm : ∀ v σ H (A B : L2.St → Hp → Prop), (∀ σ H, A σ H → B σ H) → g1 v σ H A → g1 v σ H B) :
    ∃ W : Nat → Nat → Hp → Prop, (∃ m, W 0 m (upd H1 D (.lst []))) ∧ ∀ i m H, W i m H →
      ((Itr 0 n).stop i H ∧ Qd H) ∨ ((Itr 0 n).go i H ∧ ∃ Nx : Hp → Prop, (∀ H', Nx H' → ∃ m', m' < m ∧ W (i + 1) m' H') ∧ ∀ x H', (Itr 0 n).yld i H x H' → gName i1 x (wipe σ vs) H' fun σ2 H2 => wipe σ2 vs = wipe σ vs ∧ tYes σ2 H2 fun b H3 =>
        if b = true then wi1 σ2 H3 fun J1 H4 => ∃ W1 : Nat → Nat → Hp → Prop, (∃ m, W1 0 m H4) ∧ ∀ j k H, W1 j k H →
          (J1.stop j H ∧ Nx H) ∨ (J1.go j H ∧ ∃ Nx1 : Hp → Prop, (∀ H', Nx1 H' → ∃ k', k' < k ∧ W1 (j + 1) k' H') ∧ ∀ x H', J1.yld j H x H' → g1 x (wipe σ2 vs1) H' fun σ3 H5 => wipe σ3 vs1 = wipe σ2 vs1 ∧ tYes σ3 H5 fun b H6 =>
            if b = true then te σ3 H6 fun y H7 => ∃ acc, H7 D = some (.lst acc) ∧ acc.length < sizeLine ∧ Nx1 (upd H7 D (.lst (acc ++ [y]))) else Nx1 H6)
        else Nx H3) := by
  have hmul : ∀ i j, i < n → j < xs.length → i * xs.length + j < fs.length := fun i j hi hj => by
    rw [hl]
    calc i * xs.length + j < i * xs.length + xs.length := Nat.add_lt_add_left hj _
      _ = (i + 1) * xs.length := by rw [Nat.add_mul, Nat.one_mul]
      _ ≤ n * xs.length := Nat.mul_le_mul_right _ hi
  refine ⟨fun i m H => m = n - i ∧ i ≤ n ∧ Same H1 H ∧ H D = some (.lst (fs.take (i * xs.length))), ⟨n, by simp, Nat.zero_le _, same_new hD, by rw [upd_same, Nat.zero_mul]; rfl⟩, ?_⟩
  rintro i m H ⟨rfl, hi, s1, hDl⟩
  by_cases c : i < n
  · refine .inr ⟨c, fun H' => Same H1 H' ∧ H' D = some (.lst (fs.take ((i + 1) * xs.length))), fun H' p => ⟨n - (i + 1), by omega, rfl, c, p⟩, fun x H' y => ?_⟩
    obtain ⟨e1, e2⟩ := y
    subst e1 e2
    refine ⟨hw _, yes_ ?_⟩
    refine hin i _ _ c s1 fun J H4 s4 pj => ?_
    refine ⟨fun j k H => k = xs.length - j ∧ j ≤ xs.length ∧ Same H1 H ∧ H D = some (.lst (fs.take (i * xs.length + j))), ⟨xs.length, by simp, Nat.zero_le _, Same.trans s1 s4, by rw [Nat.add_zero]; exact s4 _ _ hDl⟩, ?_⟩
    rintro j k H5 ⟨rfl, hj, s5, hD5⟩
    by_cases cj : j < xs.length
    · have hx : xs[j]? = some xs[j] := List.getElem?_eq_getElem cj
      have hlt := hmul i j c cj
      have hf : fs[i * xs.length + j]? = some fs[i * xs.length + j] := List.getElem?_eq_getElem hlt
      refine .inr ⟨pj.go H5 j _ s5 hx, fun H' => Same H1 H' ∧ H' D = some (.lst (fs.take (i * xs.length + (j + 1)))), fun H' p => ⟨xs.length - (j + 1), by omega, rfl, cj, p⟩, fun v H' yl => ?_⟩
      obtain ⟨rfl, ex⟩ := pj.yl H5 j v H' s5 yl
      refine hgm _ _ _ _ _ (fun σ2 H2 p => ⟨p.1, yes_ p.2⟩) (he i j v _ H' _ c ex hf s5 fun H2 s3 => ⟨_, s3 _ _ hD5, ?_, same_put (Same.trans s5 s3) hD, ?_⟩)
      · rw [List.length_take]; omega
      · rw [upd_same, ← Nat.add_assoc, List.take_add_one, hf]; rfl
    · have e : j = xs.length := by omega
      subst e
      exact .inl ⟨pj.stop H5 s5, s5, by rw [Nat.add_mul, Nat.one_mul]; exact hD5⟩
  · have e : i = n := by omega
    subst e
    rw [← hl, List.take_length] at hDl
    exact .inl ⟨Nat.le_refl _, hd H s1 hDl⟩
/-- [.. for i, x in enumerate(..)], its items made anew -/
theorem lcEN {K : PySem.W.Frag} {J : It} {xs : List V} {R : Nat → V → Hp → Prop} {g : TG} {te : TE} {vs : List Nat} {σ : L2.St} {H1 : Hp} {D : Addr} {Qd : Hp → Prop} (hj : EnJ J (Same H1) xs) (hD : H1 D = none) (hz : xs.length < sizeLine)
    (hR : ∀ i y H H', Same H H' → R i y H → R i y H') (hRl : ∀ i y H zs, R i y H → R i y (upd H D (.lst zs)))
    (he : ∀ (j : Nat) x T H' (Qk : V → Hp → Prop), xs[j]? = some x → Same H1 H' → H' T = none → (∃ ys, H' D = some (.lst ys)) → (∀ y H3, Same (upd H' T (.tup [.int (j : Nat), x])) H3 → R j y H3 → Qk y H3) → g (.ref T) (wipe σ vs) (upd H' T (.tup [.int (j : Nat), x])) fun σ2 H3 => wipe σ2 vs = wipe σ vs ∧ te σ2 H3 Qk)
    (hd : ∀ ys H', Same H1 H' → H' D = some (.lst ys) → ys.length = xs.length → (∀ (i : Nat) y, ys[i]? = some y → R i y H') → Qd H')
    (hgm : ∀ v σ H (A B : L2.St → Hp → Prop), (∀ σ H, A σ H → B σ H) → g v σ H A → g v σ H B) :
    ∃ W : Nat → Nat → Hp → Prop, (∃ m, W 0 m (upd H1 D (.lst []))) ∧ ∀ i' m H, W i' m H →
      (J.stop i' H ∧ Qd H) ∨ (J.go i' H ∧ ∃ Nx : Hp → Prop, (∀ H', Nx H' → ∃ m', m' < m ∧ W (i' + 1) m' H') ∧ ∀ x H', J.yld i' H x H' → g x (wipe σ vs) H' fun σ2 H2 => wipe σ2 vs = wipe σ vs ∧ tYes σ2 H2 fun b H3 =>
        if b = true then te σ2 H3 fun y H4 => ∃ acc, H4 D = some (.lst acc) ∧ acc.length < sizeLine ∧ Nx (upd H4 D (.lst (acc ++ [y]))) else Nx H3) :=
  lcB (K := K) hD hz (fun H j s hj' => hj.go H j _ s (List.getElem?_eq_getElem hj')) (fun H s => hj.stop H s) hR hRl (fun j x H' v H2 Qk hx s1 hys hy kk => by
    obtain ⟨T, x', rfl, hT, rfl, ex⟩ := hj.yl H' j v H2 s1 hy
    exact he j x' T H' Qk ex s1 hT hys fun y H3 s3 r => kk y H3 (Same.trans (same_new hT) s3) r) hd hgm
/-- one walk or the other, by name -/
def tiOr (wa wb : TI) : TI := fun σ H R => wa σ H R ∨ wb σ H R
theorem pi_or2 {X : Cx} {tg it : Expr} {wa wb : TI} (ha : PI X tg it wa) (hb : PI X tg it wb) : PI X tg it (tiOr wa wb) := pi_or ha hb
theorem n_piL {P : Program} {w : World} {K : PySem.W.Frag} {mg : Str → Option Value} {base : Heap} {j : Nat} {X : Cx} {NS WS : List (Str × Nat)} {G : List Str} {tg it : Expr} {te : TE} (h : Nm P w K mg base j X NS WS G) (he : PE X it te) : PI X tg it (iList K te) := by
  have q := h.eK
  subst q
  exact pi_list he
/-! ### a comprehension whose own name an inner one captures -/
section
variable {P : Program} {w : World} {K : PySem.W.Frag} {mg : Str → Option Value} {base : Heap} {j : Nat} {X : Cx} {NS WS NS' WS' : List (Str × Nat)} {G G' : List Str} {N : List Str} {scD scope : Scope} {pos : Pos}
end
end Tw
namespace Tw
open PySem PySem.Spec PyProof.Rows L2
/-! ### sorted ints; tuples of ints not in a list of such -/
end Tw
namespace L2
open PySem PySem.Spec PyProof.Rows
section
variable {X : Cx} {pins : List (Addr × Obj)} {σ : St} {H : Hp} {s : Shared} {d : Addr} {o : Obj}
end
section
variable {P : Program} {w : World} {K : PySem.W.Frag} {d : Addr} {o : Obj} {es : Array DictEntry} {ep : Nat}
end
section
variable {X : Cx} {tg e : Expr} {td : TE} {apos cpos : Pos}
/-! ### sum(d.values()), d a dict with tuple keys -/
end
end L2
/-! zip of two tuples whose pairs are kept. What zip.__next__ does while the zip's own tuple is out is a premise here (ZipKept): it is still to be proved -/
namespace RZ
open PySem PySem.Spec PyProof.Rows L2
abbrev IsZf (h : Heap) (z TI TO : Addr) (v : Value) (f : Bool) : Prop :=
  h.get? z = some { cls := .type "zip", dict := none, data := .fields #[v, .bool f, .bool false, .ref TI, .ref TO], slots := #[] }
section
variable {prog : Program} {w : World} {A : Around} {E : Value → Shared → Prop} {s : Shared}
/-- the own tuple of a zip may be out -/
def IsZk (h : Heap) (z TI TO : Addr) : Prop := ∃ v f, IsZf h z TI TO v f ∧ (v = .none ∨ ∃ T : Addr, v = rawInt T)
end
/-- what next does with a zip of two tuples whose own tuple may be out (to be proved) -/
structure ZipKept (prog : Program) (w : World) : Prop where
  item : ∀ {A : Around} {E : Value → Shared → Prop} {s : Shared} {z TI TO i1 i2 l1 l2 : Addr} {k1 k2 : Nat} {xs ys : Array Value} {x y a b : Value} {Q : Option Value → Shared → Prop}, ZipApart z TI TO i1 i2 l1 l2 →
    IsZk s.heap z TI TO → IsPair s.heap TI (.ref i1) (.ref i2) → IsPair s.heap TO a b → s.heap.IsTupleIter i1 l1 k1 → s.heap.IsTupleIter i2 l2 k2 → s.heap.IsTuple l1 xs → s.heap.IsTuple l2 ys → xs[k1]? = some x → ys[k2]? = some y →
    (∀ h', IsZk h' z TI TO → (∃ c d, IsPair h' TO c d) → h'.IsTupleIter i1 l1 (k1 + 1) → h'.IsTupleIter i2 l2 (k2 + 1) → IsPair h' s.heap.objs.size x y → h'.objs.size = s.heap.objs.size + 1 →
      (∀ c o, c ≠ z → c ≠ TO → c ≠ i1 → c ≠ i2 → s.heap.get? c = some o → h'.get? c = some o) → Q (some (.ref s.heap.objs.size)) { s with heap := h' }) → wpAny (model prog w) A (pyNext (.ref z)) Q E s
  done : ∀ {A : Around} {E : Value → Shared → Prop} {s : Shared} {z TI TO i1 i2 l1 l2 : Addr} {k1 k2 : Nat} {xs ys : Array Value} {a b : Value} {Q : Option Value → Shared → Prop}, A.handled = none → ZipApart z TI TO i1 i2 l1 l2 →
    IsZk s.heap z TI TO → IsPair s.heap TI (.ref i1) (.ref i2) → IsPair s.heap TO a b → s.heap.IsTupleIter i1 l1 k1 → s.heap.IsTupleIter i2 l2 k2 → s.heap.IsTuple l1 xs → s.heap.IsTuple l2 ys → (xs[k1]? = none ∨ ys[k2]? = none) →
    (∀ h', (∀ c o, c ≠ z → c ≠ TO → c ≠ i1 → c ≠ i2 → s.heap.get? c = some o → h'.get? c = some o) → Q none { s with heap := h' }) → wpAny (model prog w) A (pyNext (.ref z)) Q E s
end RZ
namespace Tw
open PySem PySem.Spec PyProof.Rows L2
/-! ### a dict of counts by pairs of states -/
def putC (cs : List (Key2 × Int)) (k : Key2) (c : Int) : List (Key2 × Int) := if (cs.any fun e => decide (e.1 = k)) = true then cs.map (fun e => if e.1 = k then (e.1, c) else e) else cs ++ [(k, c)]
theorem anyC_key {k : Key2} {cs : List (Key2 × Int)} : (cs.any fun e => decide (e.1 = k)) = true ↔ k ∈ cs.map (·.1) := by
  rw [List.any_eq_true, List.mem_map]
  constructor
  · rintro ⟨e, h1, h2⟩
    exact ⟨e, h1, of_decide_eq_true h2⟩
  · rintro ⟨e, h1, h2⟩
    exact ⟨e, h1, decide_eq_true h2⟩
theorem putC_keys (cs : List (Key2 × Int)) (k : Key2) (c : Int) : (putC cs k c).map (·.1) = if k ∈ cs.map (·.1) then cs.map (·.1) else cs.map (·.1) ++ [k] := by
  unfold putC
  by_cases q : (cs.any fun e => decide (e.1 = k)) = true
  · rw [if_pos q, if_pos (anyC_key.mp q), List.map_map]
    refine List.map_congr_left fun e _ => ?_
    show (if e.1 = k then (e.1, c) else e).1 = e.1
    split <;> rfl
  · rw [if_neg q, if_neg (fun z => q (anyC_key.mpr z)), List.map_append]; rfl
/-- the pairs are of states of both, each once -/
structure KsOk (M N : Mach) (cs : List (Key2 × Int)) : Prop where
  nd : (cs.map (·.1)).Nodup
  inn : ∀ k ∈ cs.map (·.1), InK M N k
theorem KsOk.len {M N : Mach} {cs : List (Key2 × Int)} (h : KsOk M N cs) : cs.length ≤ M.length * N.length := by
  have := inK_len h.nd h.inn
  rwa [List.length_map] at this
theorem KsOk.put {M N : Mach} {cs : List (Key2 × Int)} (h : KsOk M N cs) {k : Key2} (hk : InK M N k) (c : Int) : KsOk M N (putC cs k c) := by
  constructor
  · rw [putC_keys]
    by_cases q : k ∈ cs.map (·.1)
    · rw [if_pos q]; exact h.nd
    · rw [if_neg q]
      rw [List.nodup_append]
      refine ⟨h.nd, List.nodup_cons.mpr ⟨by simp, List.nodup_nil⟩, fun a ha b hb => ?_⟩
      rw [List.mem_singleton.mp hb]
      intro e
      exact q (e ▸ ha)
  · rw [putC_keys]
    intro x hx
    by_cases q : k ∈ cs.map (·.1)
    · rw [if_pos q] at hx; exact h.inn x hx
    · rw [if_neg q] at hx
      rcases List.mem_append.mp hx with z | z
      · exact h.inn x z
      · rw [List.mem_singleton.mp z]; exact hk
theorem KsOk.nil {M N : Mach} : KsOk M N [] := ⟨List.nodup_nil, fun k h => by cases h⟩
end Tw
namespace Tw
open PySem PySem.Spec PyProof.Rows L2
/-! ### all settings of n dials; those with the same setting behind under two turners -/
end Tw
namespace Tw
open PySem PySem.Spec PyProof.Rows L2
section
variable {P : Program} {w : World} {K : PySem.W.Frag} {mg : Str → Option Value} {base : Heap} {j k : Nat} {X : Cx} {NS WS NS' WS' : List (Str × Nat)} {G G' : List Str} {N : List Str} {scD scope : Scope} {pos spos : Pos}
end
end Tw
/-! what next does with a zip of two tuples whose own tuple may be out -/
namespace RZ
open PySem PySem.Spec PyProof.Rows L2
section
variable {prog : Program} {w : World} {A : Around} {E : Value → Shared → Prop} {s : Shared}
end
end RZ
namespace Tw
open PySem PySem.Spec PyProof.Rows L2
/-! ### a machine some of whose states stand twice -/
/-- the state at place j of N is a copy of the state os[j] of M -/
structure DbRow (M : Mach) (os : List Int) (s' s : Int × List Int) : Prop where
  turn : s'.1 = s.1
  len : s'.2.length = s.2.length
  inn : ∀ g ∈ s'.2, 0 ≤ g ∧ g < (os.length : Int)
  own : ∀ (c : Nat) g g', s'.2[c]? = some g' → s.2[c]? = some g → os[g'.toNat]? = some g
structure DbOf (M : Mach) (st : Int) (N : Mach) (sd : Int) (os : List Int) : Prop where
  len : N.length = os.length
  inn : ∀ o ∈ os, 0 ≤ o ∧ o < (M.length : Int)
  row : ∀ (j : Nat) s' o, N[j]? = some s' → os[j]? = some o → DbRow M os s' (M.getD o.toNat (0, []))
  st0 : 0 ≤ sd
  start : os[sd.toNat]? = some st
end Tw
namespace Tw
open PySem PySem.Spec PyProof.Rows L2
end Tw
namespace Tw
open PySem PySem.Spec PyProof.Rows L2
/-! ### settings that stay, counted from the last dial down -/
def stM (p : Int) (M : Mach) : Nat → Int → Int
  | 0, _ => 1
  | n + 1, s => if turnM M s = 0 then ((List.range p.toNat).map fun x : Nat => stM p M n (goM M s (x : Nat))).sum else 0
theorem sum_nonneg {l : List Int} (h : ∀ x ∈ l, 0 ≤ x) : 0 ≤ l.sum := by
  induction l with
  | nil => exact Int.le_refl 0
  | cons a r ih =>
    rw [List.sum_cons]
    have := h a List.mem_cons_self
    have := ih fun x hx => h x (List.mem_cons_of_mem _ hx)
    omega
theorem sum_pos_iff : ∀ {l : List Int}, (∀ x ∈ l, 0 ≤ x) → (0 < l.sum ↔ ∃ x ∈ l, 0 < x)
  | [], _ => ⟨fun h => absurd h (by decide), fun ⟨x, hx, _⟩ => by cases hx⟩
  | a :: r, h => by
    rw [List.sum_cons]
    have h1 := h a List.mem_cons_self
    have h2 : ∀ x ∈ r, 0 ≤ x := fun x hx => h x (List.mem_cons_of_mem _ hx)
    have h3 := sum_nonneg h2
    have ih := sum_pos_iff h2
    constructor
    · intro h4
      by_cases c : 0 < a
      · exact ⟨a, List.mem_cons_self, c⟩
      · obtain ⟨x, hx, hp⟩ := ih.mp (by omega)
        exact ⟨x, List.mem_cons_of_mem _ hx, hp⟩
    · rintro ⟨x, hx, hp⟩
      rcases List.mem_cons.mp hx with rfl | hx
      · omega
      · have := ih.mpr ⟨x, hx, hp⟩
        omega
theorem stM_nonneg {p : Int} {M : Mach} : ∀ (n : Nat) (s : Int), 0 ≤ stM p M n s
  | 0, _ => by show (0 : Int) ≤ 1; decide
  | n + 1, s => by
    show 0 ≤ if turnM M s = 0 then _ else _
    split
    · exact sum_nonneg fun x hx => by
        obtain ⟨y, _, rfl⟩ := List.mem_map.mp hx
        exact stM_nonneg n _
    · exact Int.le_refl 0
theorem stM_pos {p : Int} {M : Mach} {n : Nat} {s : Int} : 0 < stM p M (n + 1) s ↔ turnM M s = 0 ∧ ∃ x : Nat, x < p.toNat ∧ 0 < stM p M n (goM M s (x : Nat)) := by
  show (0 < if turnM M s = 0 then _ else _) ↔ _
  by_cases c : turnM M s = 0
  · rw [if_pos c, sum_pos_iff fun x hx => by
      obtain ⟨y, _, rfl⟩ := List.mem_map.mp hx
      exact stM_nonneg n _]
    constructor
    · rintro ⟨z, hz, hp⟩
      obtain ⟨x, hx, rfl⟩ := List.mem_map.mp hz
      exact ⟨c, x, List.mem_range.mp hx, hp⟩
    · rintro ⟨_, x, hx, hp⟩
      exact ⟨_, List.mem_map.mpr ⟨x, List.mem_range.mpr hx, rfl⟩, hp⟩
  · rw [if_neg c]
    exact ⟨fun h => absurd h (by decide), fun h => absurd h.1 c⟩
/-- the least tuple that stays -/
structure FsOk (p : Int) (M : Mach) (st : Int) (n i : Nat) (ds : List Int) : Prop where
  figs : ∀ d ∈ ds, 0 ≤ d ∧ d < p
  len : ds.length = i
  pos : 0 < stM p M (n - i) (runM M st ds)
  zero : ∀ at', at' < i → turnM M (runM M st (ds.take at')) = 0
  least : ∀ (at' : Nat) (d : Int) (x : Nat), ds[at']? = some d → (x : Int) < d → ¬ 0 < stM p M (n - at' - 1) (goM M (runM M st (ds.take at')) (x : Nat))
theorem FsOk.nil {p : Int} {M : Mach} {st : Int} {n : Nat} (h : 0 < stM p M n st) : FsOk p M st n 0 [] :=
  ⟨fun d hd => (by cases hd), rfl, h, fun k hk => absurd hk (Nat.not_lt_zero k), fun k d x hk _ => (by cases hk)⟩
theorem FsOk.snoc {p : Int} {M : Mach} {st : Int} {n i : Nat} {ds : List Int} (h : FsOk p M st n i ds) (hi : i < n) {x : Nat} (hx : (x : Int) < p) (hp : 0 < stM p M (n - i - 1) (goM M (runM M st ds) (x : Nat))) (hl : ∀ y, y < x → ¬ 0 < stM p M (n - i - 1) (goM M (runM M st ds) (y : Nat))) : FsOk p M st n (i + 1) (ds ++ [(x : Int)]) := by
  have hlen := h.len
  have hz : turnM M (runM M st ds) = 0 := by
    have := h.pos
    rw [show n - i = (n - i - 1) + 1 by omega] at this
    exact (stM_pos.mp this).1
  refine ⟨fun d hd => ?_, by rw [List.length_append, h.len]; rfl, ?_, fun k hk => ?_, fun k d y hk hy => ?_⟩
  · rcases List.mem_append.mp hd with q | q
    · exact h.figs d q
    · rw [List.mem_singleton.mp q]; omega
  · rw [runM_snoc, show n - (i + 1) = n - i - 1 by omega]; exact hp
  · by_cases c : k < i
    · rw [List.take_append_of_le_length (by omega)]
      exact h.zero k c
    · obtain rfl : k = i := by omega
      rw [List.take_append_of_le_length (by omega), ← hlen, List.take_length]
      exact hz
  · by_cases c : k < ds.length
    · rw [List.getElem?_append_left c] at hk
      rw [List.take_append_of_le_length (by omega)]
      exact h.least k d y hk hy
    · rw [List.getElem?_append_right (by omega)] at hk
      have e0 : k - ds.length = 0 := by
        rcases Nat.eq_zero_or_pos (k - ds.length) with e | e
        · exact e
        · rw [List.getElem?_eq_none (by simp; omega)] at hk; cases hk
      rw [e0] at hk
      obtain rfl := Option.some.inj hk
      obtain rfl : k = i := by omega
      rw [List.take_append_of_le_length (by omega), ← hlen, List.take_length]
      rw [hlen]
      exact hl y (by omega)
end Tw
namespace Tw
open PySem PySem.Spec PyProof.Rows L2
end Tw
namespace Tw
open PySem PySem.Spec PyProof.Rows L2
end Tw
/-! sorted(xs), xs any number of tuples of ints that are all of one length -/
namespace RS
open PySem PySem.Spec PyProof.Rows L2
section
variable {prog : Program} {w : World} {A : Around} {s : Shared}
end
end RS
namespace Tw
open PySem PySem.Spec PyProof.Rows L2
end Tw
namespace Tw
open PySem PySem.Spec PyProof.Rows L2
end Tw
/-! sorted(set(xs)), xs a list of ints -/
namespace RI
open PySem PySem.Spec PyProof.Rows L2
section
variable {P : Program} {w : World} {A : Around} {E : Value → Shared → Prop} {s : Shared}
end
end RI
namespace Tw
open PySem PySem.Spec PyProof.Rows L2
end Tw
namespace Tw
open PySem PySem.Spec PyProof.Rows L2
/-! ### where a setting that stays may be behind so many dials -/
/-! ### a way longer than there are states has no end -/
/-! ### a way of stairs -/
end Tw
namespace Tw
open PySem PySem.Spec PyProof.Rows L2
section
variable {P : Program} {w : World} {K : PySem.W.Frag} {mg : Str → Option Value} {base : Heap} {j : Nat} {X : Cx} {NS WS NS' WS' : List (Str × Nat)} {G G' : List Str} {N : List Str} {scD scope : Scope} {pos spos : Pos}
end
end Tw
namespace Tw
open PySem PySem.Spec PyProof.Rows L2
end Tw
namespace Tw
open PySem PySem.Spec PyProof.Rows L2 LamX NdefX
/-! ### lambdas made in a comprehension: its own cells are lent -/
structure LentOfB (ys : List Str) (ce : List (Str × Addr)) (N : List Str) (sc : Scope) (σ : L2.St) (cs : Cells) (H : Hp) : Prop where
  free : ∀ b o, cs.lookup b = some o → H b = none
  all : ∀ y c, y ∈ ys → ce.lookup y = some c → ∃ o v, cs.lookup c = some o ∧ o.data = .cell v
  inj : ∀ x y c, ce.lookup x = some c → ce.lookup y = some c → x = y
  val : ∀ (i : Nat) (y : Str) (v : V), N[i]? = some y → σ[i]? = some (some v) → y ∈ ys → sc.names.lookup y = some .cell → ∃ c o u, ce.lookup y = some c ∧ cs.lookup c = some o ∧ o.data = .cell (some u) ∧ L2.RelV v u
  has : ∀ y, sc.names.lookup y = some .cell → ∃ c, ce.lookup y = some c
section
variable {X : Cx} {pins : List (Addr × Obj)} {σ : L2.St} {H : Hp} {s : Shared} {ys : List Str}
end
section
variable {P : Program} {w : World} {K : PySem.W.Frag} {mg : Str → Option Value} {base : Heap} {j k : Nat} {X : Cx} {NS WS NS' WS' : List (Str × Nat)} {G G' N : List Str} {scD scope : Scope} {x : Str} {ps ys : List Str} {sp : Sp} {e : Expr} {es : List Expr} {t : TA} {p pos : Pos}
end
/-! ### comprehensions where code tables grow -/
end Tw
namespace Tw
open PySem PySem.Spec PyProof.Rows L2
/-! ### a comprehension whose items may raise -/
section
variable {X : Cx} {pins : List (Addr × Obj)} {σ : L2.St} {H : Hp} {s s' : Shared} {E : XK} {ce : Env} {m : Str → Option Value}
end
/-! the block of a comprehension, seen from its def -/
section
variable {X : Cx} {pins q : List (Addr × Obj)} {σ τ : L2.St} {H3 H : Hp} {s3 s : Shared} {scope : Scope} {ce : Env} {fp : List Addr} {E : XK}
/-- where a turn begins -/
structure AtTurn (X' : Cx) (τ : L2.St) (tn : Nat → Heap → Prop) (fp : List Addr) (i : Nat) (H : Hp) (s : Shared) : Prop where
  inv : Inv X' [] τ H s
  at_ : tn i s.heap
  out : ∀ b ∈ fp, H b = none
end
section
variable {X : Cx}
end
end Tw
namespace Tw
open PySem PySem.Spec PyProof.Rows L2 TL
/-! ### comprehensions whose items may raise, by names -/
section
variable {P : Program} {w : World} {K : PySem.W.Frag} {mg : Str → Option Value} {base : Heap} {j k : Nat} {X : Cx} {NS WS NS' WS' : List (Str × Nat)} {G G' N : List Str} {scD scope : Scope} {x : Str} {ps : List Str} {sp : Sp} {e : Expr} {es : List Expr} {t : TA} {p pos : Pos} {E : XK}
end
/-! ### letters of words -/
/-! the sign behind a letter -/
end Tw
namespace Tw
open PySem PySem.Spec PyProof.Rows L2 TL
end Tw
namespace Tw
open PySem PySem.Spec PyProof.Rows L2
end Tw
namespace Tw
open PySem PySem.Spec PyProof.Rows L2
/-- a def that may raise, called by keywords alone -/
structure DxK (P : Program) (w : World) (K : PySem.W.Frag) (mg : Str → Option Value) (base : Heap) (k : Nat) (x : Str) (ps ks : List Str) (gV : List V → List V → List V) (sp : Sp) : Prop where
  ex : ∃ f fd, ∃ g : List Value → List Value → List Value, mg x = some (.ref f) ∧ PySem.W.keepIn K (.ref f) = true ∧ KBn K fd ps 0 ks g gV ∧ FnOk P w K mg base (L2.CX P w) k f fd ps sp
end Tw
namespace Tw
open PySem PySem.Spec PyProof.Rows L2
local macro_rules | `(tactic| walk_at "mem") => `(tactic| with_reducible (first | exact p0 | exact pS p0 | exact pS (pS p0) | exact pS (pS (pS p0)) | exact pS (pS (pS (pS p0))) | exact pS (pS (pS (pS (pS p0)))) | exact pS (pS (pS (pS (pS (pS p0))))) | exact pS (pS (pS (pS (pS (pS (pS p0)))))) | exact pS (pS (pS (pS (pS (pS (pS (pS p0))))))) | exact pS (pS (pS (pS (pS (pS (pS (pS (pS p0)))))))) | exact pS (pS (pS (pS (pS (pS (pS (pS (pS (pS p0))))))))) | exact pS (pS (pS (pS (pS (pS (pS (pS (pS (pS (pS p0)))))))))) | exact pS (pS (pS (pS (pS (pS (pS (pS (pS (pS (pS (pS p0))))))))))) | exact pS (pS (pS (pS (pS (pS (pS (pS (pS (pS (pS (pS (pS p0)))))))))))) | exact pS (pS (pS (pS (pS (pS (pS (pS (pS (pS (pS (pS (pS (pS p0))))))))))))) | exact pS (pS (pS (pS (pS (pS (pS (pS (pS (pS (pS (pS (pS (pS (pS p0)))))))))))))) | exact pS (pS (pS (pS (pS (pS (pS (pS (pS (pS (pS (pS (pS (pS (pS (pS p0))))))))))))))) | exact pS (pS (pS (pS (pS (pS (pS (pS (pS (pS (pS (pS (pS (pS (pS (pS (pS p0))))))))))))))))))
local macro_rules | `(tactic| walk_at "as") => `(tactic| with_reducible assumption)
local macro_rules | `(tactic| walk_at "pv") => `(tactic| (refine' n_v (by walk_at "as") ?vm; (case vm => walk_at "mem")))
local macro_rules | `(tactic| walk_at "pa") => `(tactic| first | exact pa_nil | (refine' pa_cons ?pa1 ?pa2; (case pa1 => walk_at "pe"); (case pa2 => walk_at "pa")))
local macro_rules | `(tactic| walk_at "op") => `(tactic| with_reducible (first | exact op_add | exact op_sub | exact op_mul | exact op_mod | exact op_fdiv | exact op_pow))
local macro_rules | `(tactic| walk_at "cmp") => `(tactic| with_reducible (first | exact op_eq | exact op_ne | exact op_lt | exact op_le | exact op_gt | exact op_ge | exact op_notN | exact op_isN))
local macro_rules | `(tactic| walk_at "blt") => `(tactic| first
  | (refine' n_len (by walk_at "as") (by walk_at "as") ?bg ?ba; (case bg => walk_at "mem"); (case ba => walk_at "pa"))
  | (refine' n_t (x := "int") (by walk_at "as") (by walk_at "as") call_int1 PyProof.Rows.boot_int ?bg ?ba; (case bg => walk_at "mem"); (case ba => walk_at "pa"))
  | (refine' n_b (x := "abs") (by walk_at "as") (by walk_at "as") call_abs boot_abs ?bg ?ba; (case bg => walk_at "mem"); (case ba => walk_at "pa"))
  | (refine' n_t (x := "list") (by walk_at "as") (by walk_at "as") call_list_of PyProof.Rows.boot_list ?bg ?ba; (case bg => walk_at "mem"); (case ba => walk_at "pa"))
  | (refine' n_t (x := "tuple") (by walk_at "as") (by walk_at "as") call_tuple_of PyProof.Rows.boot_tuple ?bg ?ba; (case bg => walk_at "mem"); (case ba => walk_at "pa"))
  | (refine' n_isiT (by walk_at "as") (by walk_at "as") ?bg (pa_cons ?i1 (pa_cons (pe_tup ?i2) pa_nil)); (case bg => walk_at "mem"); (case i1 => walk_at "pe"); (case i2 => walk_at "pa"))
  | (refine' n_isi (by walk_at "as") (by walk_at "as") ?bg ?ba; (case bg => walk_at "mem"); (case ba => walk_at "pa"))
  | (refine' n_b (x := "all") (by walk_at "as") (by walk_at "as") (cr_all (Nm.calm (by walk_at "as"))) PyProof.Rows.boot_all ?bg ?ba; (case bg => walk_at "mem"); (case ba => walk_at "pa")))
local macro_rules | `(tactic| walk_at "usr") => `(tactic| (refine' n_d (by walk_at "as") (by walk_at "as") (by decide) ?ug ?ua; (case ug => walk_at "mem"); (case ua => walk_at "pa")))
local macro_rules | `(tactic| walk_at "po") => `(tactic| first | exact po_none | (refine' po_some ?poe; (case poe => walk_at "pe")))
local macro_rules | `(tactic| walk_at "gl") => `(tactic| first
  | (refine' n_glR (by walk_at "as") (by walk_at "as") ?gg; (case gg => walk_at "mem"))
  | (refine' n_glI (by walk_at "as") (by walk_at "as") ?gg; (case gg => walk_at "mem"))
  | (refine' n_bv (x := "int") (v := V.ty "int") (by walk_at "as") (by walk_at "as") PyProof.Rows.boot_int rfl ?gg; (case gg => walk_at "mem"))
  | (refine' n_bv (x := "bool") (v := V.ty "bool") (by walk_at "as") (by walk_at "as") PyProof.Rows.boot_bool rfl ?gg; (case gg => walk_at "mem"))
  | (refine' n_bv (x := "list") (v := V.ty "list") (by walk_at "as") (by walk_at "as") PyProof.Rows.boot_list rfl ?gg; (case gg => walk_at "mem"))
  | (refine' n_bv (x := "tuple") (v := V.ty "tuple") (by walk_at "as") (by walk_at "as") PyProof.Rows.boot_tuple rfl ?gg; (case gg => walk_at "mem"))
  | (refine' n_bv (x := "str") (v := V.ty "str") (by walk_at "as") (by walk_at "as") PyProof.Rows.boot_str rfl ?gg; (case gg => walk_at "mem")))
local macro_rules | `(tactic| walk_at "peT") => `(tactic| first
  | (refine' n_ixT (by walk_at "as") ?ia ?ib (fun _ _ => rfl); (case ia => walk_at "peT"); (case ib => walk_at "pe"))
  | walk_at "pe")
local macro_rules | `(tactic| walk_at "pb") => `(tactic| first
  | (refine' pe_one ?b1; (case b1 => walk_at "pe"))
  | (refine' pe_and ?b1 ?b2; (case b1 => walk_at "pe"); (case b2 => walk_at "pb"))
  | (refine' pe_or ?b1 ?b2; (case b1 => walk_at "pe"); (case b2 => walk_at "pb")))
local macro_rules | `(tactic| walk_at "pe") => `(tactic| first
  | walk_at "pv"
  | exact pe_int | exact pe_bl | exact pe_non | exact pe_str
  | (refine' pe_op ?po ?pl ?pr; (case po => walk_at "op"); (case pl => walk_at "pe"); (case pr => walk_at "pe"))
  | (refine' pe_slice sl_list ?sx ?sl ?su; (case sx => walk_at "pe"); (case sl => walk_at "po"); (case su => walk_at "po"))
  | (refine' n_ixL (by walk_at "as") ?ia ?ib (fun _ _ => rfl); (case ia => walk_at "pe"); (case ib => walk_at "pe"))
  | (refine' pe_lst ?la; (case la => walk_at "pa"))
  | (refine' pe_tup ?la; (case la => walk_at "pa"))
  | walk_at "blt"
  | walk_at "usr"
  | (refine' n_sm (by walk_at "as") (by walk_at "as") ?mg (by walk_at "as") (by decide) ?ma; (case mg => walk_at "mem"); (case ma => walk_at "pa"))
  | (refine' n_mK (by walk_at "as") (by walk_at "as") (by walk_at "as") (by decide) ?mo (pk_cons ?mk pk_nil); (case mo => walk_at "pe"); (case mk => walk_at "pe"))
  | (refine' n_m (by walk_at "as") (by walk_at "as") (by walk_at "as") (by decide) ?mo ?ma; (case mo => walk_at "pe"); (case ma => walk_at "pa"))
  | (refine' n_m0 (by walk_at "as") (by walk_at "as") (by walk_at "as") (by decide) ?mo; (case mo => walk_at "pe"))
  | (refine' pe_bm PySem.F.plainAttrs_list PySem.F.slot_list_append PySem.F.type_list_append mt_append ?mo ?ma; (case mo => walk_at "pe"); (case ma => walk_at "pa"))
  | (refine' pe_cmpR ?co ?cl ?cr (nomark _); (case co => walk_at "cmp"); (case cl => walk_at "pe"); (case cr => walk_at "pe"))
  | (refine' pe_chain ?co ?cp ?cl ?cm ?cr; (case co => walk_at "cmp"); (case cp => walk_at "cmp"); (case cl => walk_at "pe"); (case cm => walk_at "pe"); (case cr => walk_at "pe"))
  | (refine' pe_not ?nv; (case nv => walk_at "pe"))
  | walk_at "pb"
  | walk_at "gl"
  | (refine' ClX.pe_cval ?cv; (case cv => walk_at "gl"))
  | (refine' n_fldK (by walk_at "as") ?fv; (case fv => walk_at "pe"))
  | (refine' n_coK (by walk_at "as") (by walk_at "as") (by decide) ?cf (pk_cons ?ck pk_nil); (case cf => walk_at "pe"); (case ck => walk_at "pe"))
  | (refine' n_co (by walk_at "as") (by walk_at "as") (by decide) ?cf ?ca; (case cf => walk_at "pe"); (case ca => walk_at "pa"))
  | (refine' pe_ifExp ?qc ?qa ?qb; (case qc => walk_at "pt"); (case qa => walk_at "pe"); (case qb => walk_at "pe")))
local macro_rules | `(tactic| walk_at "pw") => `(tactic| first
  | (refine' pw_and1 ?wa; (case wa => walk_at "pt")) | (refine' pw_or1 ?wa; (case wa => walk_at "pt"))
  | (refine' pw_and ?wa ?wb; (case wa => walk_at "pt"); (case wb => walk_at "pw"))
  | (refine' pw_or ?wa ?wb; (case wa => walk_at "pt"); (case wb => walk_at "pw")))
local macro_rules | `(tactic| walk_at "pt") => `(tactic| first
  | (refine' pt_cmpR op_notIn_seq ?cl ?cr (by with_unfolding_all rfl); (case cl => walk_at "pe"); (case cr => walk_at "pe"))
  | (refine' pt_cmpR op_in_seq ?cl ?cr (by with_unfolding_all rfl); (case cl => walk_at "pe"); (case cr => walk_at "pe"))
  | (refine' pt_cmpR ?co ?cl ?cr (nomark _); (case co => walk_at "cmp"); (case cl => walk_at "pe"); (case cr => walk_at "pe"))
  | (refine' pt_chain ?co ?cp ?cl ?cm ?cr; (case co => walk_at "cmp"); (case cp => walk_at "cmp"); (case cl => walk_at "pe"); (case cm => walk_at "pe"); (case cr => walk_at "pe"))
  | (refine' pt_not ?na; (case na => walk_at "pt"))
  | (refine' PW.pt ?wv; (case wv => walk_at "pw"))
  | (refine' pt_val ?vv; (case vv => walk_at "pe")))
local macro_rules | `(tactic| walk_at "pg") => `(tactic| first
  | (refine' n_g (by walk_at "as") ?vm; (case vm => walk_at "mem"))
  | (refine' pg_sub ?go ?gi set_list; (case go => walk_at "pe"); (case gi => walk_at "pe"))
  | (refine' n_tupK (by walk_at "as") ?gs; (case gs => walk_at "pgs")))
local macro_rules | `(tactic| walk_at "pgs") => `(tactic| first | exact pgs_nil | (refine' pgs_cons ?g1 ?g2; (case g1 => walk_at "pg"); (case g2 => walk_at "pgs")))
local macro_rules | `(tactic| walk_at "pi") => `(tactic| first
  | (refine' n_rng (by walk_at "as") (by walk_at "as") ?rg ?ra; (case rg => walk_at "mem"); (case ra => walk_at "pa"))
  | (refine' n_enum (by walk_at "as") (by walk_at "as") ?rg ?ra; (case rg => walk_at "mem"); (case ra => walk_at "pa"))
  | (refine' n_zip (by walk_at "as") (by walk_at "as") ?rg ?ra; (case rg => walk_at "mem"); (case ra => walk_at "pa"))
  | (refine' pi_list ?rl; (case rl => walk_at "pe")))
local macro_rules | `(tactic| walk_at "ps") => `(tactic| first
  | (refine' ps_if ?fc ?fa ?fb; (case fc => walk_at "pt"); (case fa => walk_at "pss"); (case fb => walk_at "pss"))
  | (refine' ps_ret ?re; (case re => walk_at "pe"))
  | exact ps_retN
  | (with_reducible refine' (@ps_never _ (.Raise _ _ _)))
  | (refine' ps_asg ?ae ?ag; (case ae => walk_at "pe"); (case ag => walk_at "pg"))
  | (refine' ps_fld ?fo ?fe (by rfl); (case fo => walk_at "pe"); (case fe => walk_at "pe"))
  | (refine' ps_expr ?ee; (case ee => walk_at "pe"))
  | (refine' n_for (by walk_at "as") PassesOwn.never ?fi ?fg ?fb; (case fi => walk_at "pi"); (case fg => walk_at "pg"); (case fb => walk_at "pss")))
local macro_rules | `(tactic| walk_at "pss") => `(tactic| first
  | exact pss_nil
  | (refine' pss_one ?s1; (case s1 => walk_at "ps"))
  | (refine' pss_cons ?s1 ?s2; (case s1 => walk_at "ps"); (case s2 => walk_at "pss")))
local macro_rules | `(tactic| walk_at "ne") => `(tactic| first | assumption | exact Ne.symm (by assumption))
local macro_rules | `(tactic| walk_at "hp") => `(tactic| first | assumption | exact upd_same | (refine (upd_ne (by walk_at "ne")).trans ?_; walk_at "hp"))
local macro_rules | `(tactic| walk_at "ar") => `(tactic| first | decide | omega | assumption)
local macro_rules | `(tactic| walk_at "r") => `(tactic| first
  | refine ⟨_, rfl, ?_⟩
  | refine ⟨_, _, _, _, rfl, rfl, SqL.of (by walk_at "hp"), by rfl, ?_⟩
  | refine ⟨_, _, _, _, rfl, rfl, SqL.of (by walk_at "hp"), by assumption, ?_⟩
  | refine ⟨_, _, _, _, rfl, rfl, by walk_at "hp", by rfl, ?_⟩
  | refine ⟨_, _, rfl, rfl, (show _ < (_ : Int) by walk_at "ar"), ?_⟩
  | refine ⟨_, _, rfl, rfl, .inr ⟨by walk_at "ar", by walk_at "ar"⟩, ?_⟩
  | refine ⟨_, _, rfl, rfl, .inl ⟨by walk_at "ar", by walk_at "ar"⟩, ?_⟩
  | refine ⟨_, _, rfl, rfl, ⟨by walk_at "ar", by walk_at "ar"⟩, ?_⟩
  | refine ⟨_, _, rfl, rfl, ⟨by walk_at "ar", by walk_at "ar", by walk_at "ar"⟩, ?_⟩
  | refine ⟨_, _, rfl, .inl (SqL.of (by walk_at "hp")), ?_⟩
  | refine ⟨_, _, rfl, .inr (SqT.of (by walk_at "hp")), ?_⟩
  | refine ⟨_, _, rfl, rfl, ?_⟩
  | refine .inl ⟨_, rfl, ?_⟩
  | refine ⟨rfl, ?_⟩)

def top (i : Nat) : Stmt := PySem.Challenge.pw_lowturns_k51_whole_relabellings_lead.main.body.getD i (.Pass ⟨0, 0, 0, 0⟩)
abbrev sBag : Stmt := top 68
abbrev sPull : Stmt := top 69
abbrev sOf : Stmt := top 70
abbrev sPrime : Stmt := top 72
abbrev sFigs : Stmt := top 73
abbrev sPlain : Stmt := top 74
section
variable {P : Program} {w : World} {K : PySem.W.Frag} {mg : Str → Option Value} {base : Heap}
theorem cut63 (ns : List Int) : cutV (ns.map V.int) none (some 63) = (ns.take 63).map V.int := by
  unfold cutV
  have h1 : HT.sIx (ns.map V.int).length 0 none = 0 := rfl
  have h2 : HT.sIx (ns.map V.int).length (ns.map V.int).length (some 63) = min 63 (ns.map V.int).length := by
    first | rfl | (unfold HT.sIx; simp; done) | (unfold HT.sIx; simp; omega)
  rw [h1, h2, List.drop_zero, Nat.sub_zero, ← List.map_take, List.length_map]
  by_cases c : ns.length ≤ 63
  · rw [Nat.min_eq_right c, List.take_length, List.take_of_length_le c]
  · rw [Nat.min_eq_left (by omega)]

theorem scPull : FnScope ["_law_bag_here", "_law_many", "_law_cell", "_law_digit", "_law_twice"] ["_law_bag_here", "_law_many"] (defScope sPull) := ⟨rfl, rfl, rfl, by decide +kernel, rfl, by decide +kernel, by decide +kernel⟩

theorem nmPull : nmB ["_law_bag_here", "_law_many", "_law_cell", "_law_digit", "_law_twice"] [("_law_bag_here", 0), ("_law_many", 1), ("_law_cell", 2), ("_law_digit", 3), ("_law_twice", 4)] ["len", "int", "abs"] (defScope sPull) = true := by decide +kernel
theorem ok_pull {f : Addr} {fd : FuncData} (F : Fun K "_law_pull" "_law_pull" sPull f fd) (B : Bn mg) : FnOk P w K mg base CX0 1 f fd ["_law_bag_here", "_law_many"] spPull := by
  refine F.ok scPull (fun vs H Q E h => ?_) (fun cdv A outer s H vs Q E hr h => ?_)
  · obtain ⟨b, l, n, rfl, _⟩ := h
    rfl
  · obtain ⟨b, l, n, rfl, ⟨i, r, m, t, ns, hb, hl, i0, r0, m0, m1⟩, n0, n1, k⟩ := h
    obtain ⟨b1, b2, b3, b4, b5, b6, b7, b8, b9, b10, b11⟩ := B
    refine' ex_mk ?d ?_
    case d =>
      have nm := nm_of (CX := CX0) (P := P) (w := w) (K := K) (mg := mg) (base := base) (outer := outer) (H := H) (E := E) nmPull hr
      walk_at "pss"
    have nlb : l ≠ b := ne_of hl hb (by intro q; injection q with q; cases ns <;> simp at q)
    iterate 5 walk_at "r"
    dsimp only
    refine cut (Pv := fun σ' H' => ∃ (v2 : Option V) (i' r' m' t' : Int), σ' = [some (.ref b), some (.int n), v2, none, none] ∧ H' b = some (.lst [.ref l, .int i', .int r', .int m', .int t']) ∧ 0 ≤ i' ∧ 0 ≤ r' ∧ 0 ≤ m' ∧ m' < 2147483647 ∧ (∀ a o, a ≠ b → H a = some o → H' a = some o)) (fun σ' H' hp => ?_) (fun N rest => ?_)
    · obtain ⟨v2, i', r', m', t', rfl, hb', i0', r0', m0', m1', hs⟩ := hp
      have hl' := hs l _ nlb hl
      repeat walk_at "r"
      refine ite2 (fun c => ?_) (fun c => ?_)
      · have c' : 0 < r' := of_decide_eq_true c
        repeat walk_at "r"
        exact k _ _ ⟨fun a o ne e => by rw [upd_ne ne]; exact hs a o ne e, i', r' / n, m', t', ns, upd_same, by rw [upd_ne nlb]; exact hl', i0', Int.ediv_nonneg r0' (by omega), m0', m1'⟩ (Int.emod_nonneg _ (by omega)) (Int.emod_lt_of_pos _ n0)
      · repeat walk_at "r"
        refine k _ _ ?_ (Int.emod_nonneg _ (by omega)) (Int.emod_lt_of_pos _ n0)
        refine ⟨fun a o ne e => by rw [upd_ne ne]; exact hs a o ne e, i', r', _, t', ns, upd_same, by rw [upd_ne nlb]; exact hl', i0', r0', Int.emod_nonneg _ (by decide), Int.lt_trans (Int.emod_lt_of_pos _ (by decide)) (by decide)⟩
    · repeat walk_at "r"
      refine ite2 (fun c => ?_) (fun c => ?_)
      · repeat walk_at "r"
        refine ite2 (fun c2 => ?_) (fun c2 => ?_)
        · have c2' : i < ((ns.map V.int).length : Int) := of_decide_eq_true c2
          rw [List.length_map] at c2'
          have hk : i.toNat < ns.length := by omega
          have hat : atI (ns.map V.int) i = some (.int ns[i.toNat]) := at_of (j := i.toNat) (by omega) (by rw [List.getElem?_map, List.getElem?_eq_getElem hk]; rfl)
          repeat walk_at "r"
          refine ite2 (fun c3 => ?_) (fun c3 => ?_)
          · repeat walk_at "r"
            dsimp only
            refine rest _ _ ?_
            exact ⟨_, i + 1, _, m, t + 1, rfl, upd_same, by omega, by split <;> omega, m0, m1, fun a o ne e => by simp only [upd_ne ne]; exact e⟩
          · repeat walk_at "r"
            dsimp only
            refine rest _ _ ?_
            exact ⟨_, i + 1, r, _, t + 1, rfl, upd_same, by omega, r0, Int.emod_nonneg _ (by decide), Int.lt_trans (Int.emod_lt_of_pos _ (by decide)) (by decide), fun a o ne e => by simp only [upd_ne ne]; exact e⟩
        · first | refine iteF (rest _ _ ?_) | (dsimp only; refine iteF (rest _ _ ?_)) | refine rest _ _ ?_
          exact ⟨none, i, r, m, t + 1, rfl, upd_same, i0, r0, m0, m1, fun a o ne e => by rw [upd_ne ne]; exact e⟩
      · first | refine iteF (rest _ _ ?_) | (dsimp only; refine iteF (rest _ _ ?_)) | refine rest _ _ ?_
        exact ⟨none, i, r, m, t + 1, rfl, upd_same, i0, r0, m0, m1, fun a o ne e => by rw [upd_ne ne]; exact e⟩
end

section
variable {P : Program} {w : World} {K : PySem.W.Frag} {mg : Str → Option Value} {base : Heap}
theorem scBag : FnScope ["_law_script", "_law_mixed", "_law_cell"] ["_law_script"] (defScope sBag) := ⟨rfl, rfl, rfl, by decide +kernel, rfl, by decide +kernel, by decide +kernel⟩
theorem nmBag : nmB ["_law_script", "_law_mixed", "_law_cell"] [("_law_script", 0), ("_law_mixed", 1), ("_law_cell", 2)] ["int", "list"] (defScope sBag) = true := by decide +kernel
theorem ok_bag {f : Addr} {fd : FuncData} (F : Fun K "_law_bag" "_law_bag" sBag f fd) (B : Bn mg) : FnOk P w K mg base CX0 1 f fd ["_law_script"] (spBag K) := by
  refine F.ok scBag (fun vs H Q E h => ?_) (fun cdv A outer s H vs Q E hr h => ?_)
  · obtain ⟨a, ns, rfl, _⟩ := h
    rfl
  · obtain ⟨a, ns, rfl, hS, k⟩ := h
    obtain ⟨b1, b2, b3, b4, b5, b6, b7, b8, b9, b10, b11⟩ := B
    refine' ex_mk ?d ?_
    case d =>
      have nm := nm_of (CX := CX0) (P := P) (w := w) (K := K) (mg := mg) (base := base) (outer := outer) (H := H) (E := E) nmBag hr
      walk_at "pss"
    refine ⟨_, rfl, _, rfl, a, _, rfl, hS, fun q hq => ⟨q, rfl, ⟨_, SqL.of upd_same⟩, ?_⟩⟩
    rw [cut63]
    refine for_list (K := K) (a := q) (xs := (ns.take 63).map V.int) (fun i σ H' => ∃ (m : Int) (v : Option V), σ = [some (.ref a), some (.int m), v] ∧ 0 ≤ m ∧ m < 2147483647 ∧ H' = upd H q (.lst ((ns.take 63).map V.int)))
      ⟨4926, none, rfl, by decide, by decide, rfl⟩ (fun i σ H' _ ⟨_, _, _, _, _, e⟩ => by rw [e]; exact SqL.of upd_same) ?_ ?_
    · rintro i y σ H' hi ⟨m, v, rfl, m0, m1, rfl⟩
      obtain ⟨z, rfl⟩ : ∃ z, y = V.int z := by
        rw [List.getElem?_map] at hi
        cases e : (ns.take 63)[i]? with
        | none => rw [e] at hi; cases hi
        | some u => rw [e] at hi; exact ⟨u, (Option.some.inj hi).symm⟩
      repeat walk_at "r"
      exact ⟨_, _, rfl, Int.emod_nonneg _ (by decide), Int.lt_trans (Int.emod_lt_of_pos _ (by decide)) (by decide), rfl⟩
    · rintro σ H' ⟨m, v, rfl, m0, m1, rfl⟩
      refine ⟨_, rfl, _, rfl, a, _, rfl, (show Same H _ from same_new hq).seq hS, fun p hp => ?_⟩
      refine ⟨p, _, rfl, .inl (SqL.of upd_same), fun l hl => ?_⟩
      rw [cut63] at *
      refine ⟨_, rfl, (by show 5 ≤ sizeLine; decide), fun b hb => ?_⟩
      have s1 : Same H (upd (upd (upd (upd H q (.lst ((ns.take 63).map V.int))) p (.lst ((ns.take 63).map V.int))) l (.lst ((ns.take 63).map V.int))) b (.lst [.ref l, .int 0, .int 0, .int m, .int 0])) :=
        same_add (same_add (same_add (same_new hq) hp) hl) hb
      have s3 : Same H (upd (upd (upd H q (.lst ((ns.take 63).map V.int))) p (.lst ((ns.take 63).map V.int))) l (.lst ((ns.take 63).map V.int))) := same_add (same_add (same_new hq) hp) hl
      refine k _ b l s1 (s3.free hb) ⟨0, 0, m, 0, ns.take 63, upd_same, ?_, by decide, by decide, m0, m1⟩
      rw [upd_ne (ne_of_none upd_same hb), upd_same]

theorem scOf : FnScope ["_law_bag_here", "_law_some"] ["_law_bag_here", "_law_some"] (defScope sOf) := ⟨rfl, rfl, rfl, by decide +kernel, rfl, by decide +kernel, by decide +kernel⟩
theorem nmOf : nmB ["_law_bag_here", "_law_some"] [("_law_bag_here", 0), ("_law_some", 1)] ["len", "_law_pull"] (defScope sOf) = true := by decide +kernel
theorem ok_of {f : Addr} {fd : FuncData} (F : Fun K "_law_of" "_law_of" sOf f fd) (B : Bn mg) (D : Df P w K mg base 1 "_law_pull" ["_law_bag_here", "_law_many"] spPull) : FnOk P w K mg base CX0 2 f fd ["_law_bag_here", "_law_some"] spOf := by
  refine F.ok scOf (fun vs H Q E h => ?_) (fun cdv A outer s H vs Q E hr h => ?_)
  · obtain ⟨b, l, a, xs, rfl, _⟩ := h
    rfl
  · obtain ⟨b, l, a, xs, rfl, hB, hA, nab, x0, x1, k⟩ := h
    obtain ⟨b1, b2, b3, b4, b5, b6, b7, b8, b9, b10, b11⟩ := B
    refine' ex_mk ?d ?_
    case d =>
      have nm := nm_of (CX := CX0) (P := P) (w := w) (K := K) (mg := mg) (base := base) (outer := outer) (H := H) (E := E) nmOf hr
      walk_at "pss"
    refine ⟨_, rfl, _, rfl, _, rfl, _, _, rfl, .inl (SqL.of hA), b, l, _, rfl, hB, by omega, by omega, fun H' d st d0 d1 => ?_⟩
    have hd : d.toNat < xs.length := by omega
    have e : xs[d.toNat]? = some xs[d.toNat] := List.getElem?_eq_getElem hd
    refine ⟨a, xs, d, _, rfl, rfl, SqL.of (st.1 a _ nab hA), at_of (by omega) e, ?_⟩
    exact k H' d.toNat _ st e

theorem scPrime : FnScope ["_law_bag_here"] ["_law_bag_here"] (defScope sPrime) := ⟨rfl, rfl, rfl, by decide +kernel, rfl, by decide +kernel, by decide +kernel⟩
theorem nmPrime : nmB ["_law_bag_here"] [("_law_bag_here", 0)] ["_law_of"] (defScope sPrime) = true := by decide +kernel
theorem ok_prime {f : Addr} {fd : FuncData} (F : Fun K "_law_prime" "_law_prime" sPrime f fd) (D : Df P w K mg base 2 "_law_of" ["_law_bag_here", "_law_some"] spOf) : FnOk P w K mg base CX0 3 f fd ["_law_bag_here"] spPrime := by
  refine F.ok scPrime (fun vs H Q E h => ?_) (fun cdv A outer s H vs Q E hr h => ?_)
  · obtain ⟨b, l, rfl, _⟩ := h
    rfl
  · obtain ⟨b, l, rfl, hB, k⟩ := h
    refine' ex_mk ?d ?_
    case d =>
      have nm := nm_of (CX := CX0) (P := P) (w := w) (K := K) (mg := mg) (base := base) (outer := outer) (H := H) (E := E) nmPrime hr
      walk_at "pss"
    refine ⟨_, rfl, (by show 7 ≤ sizeLine; decide), fun a ha => ?_⟩
    refine ⟨b, l, a, _, rfl, hB.new ha, upd_same, hB.ne ha, by decide, by decide, fun H' d x st hx => ?_⟩
    have st' : Stp b l H H' := ⟨keep_trans (keep_new ha) st.1, st.2⟩
    match d, hx with
    | 0, hx => obtain rfl := Option.some.inj hx; exact k _ _ st' (.inl rfl)
    | 1, hx => obtain rfl := Option.some.inj hx; exact k _ _ st' (.inl rfl)
    | 2, hx => obtain rfl := Option.some.inj hx; exact k _ _ st' (.inr (.inl rfl))
    | 3, hx => obtain rfl := Option.some.inj hx; exact k _ _ st' (.inl rfl)
    | 4, hx => obtain rfl := Option.some.inj hx; exact k _ _ st' (.inr (.inl rfl))
    | 5, hx => obtain rfl := Option.some.inj hx; exact k _ _ st' (.inr (.inr (.inl rfl)))
    | 6, hx => obtain rfl := Option.some.inj hx; exact k _ _ st' (.inr (.inr (.inr rfl)))
    | n + 7, hx => exact absurd hx (by simp)
end

section
variable {P : Program} {w : World} {K : PySem.W.Frag} {mg : Str → Option Value} {base : Heap}
theorem scFigs : FnScope ["_law_bag_here", "_law_p", "_law_many", "_law_k"] ["_law_bag_here", "_law_p", "_law_many"] (defScope sFigs) := ⟨rfl, rfl, rfl, by decide +kernel, rfl, by decide +kernel, by decide +kernel⟩
theorem nmFigs : nmB ["_law_bag_here", "_law_p", "_law_many", "_law_k"] [("_law_bag_here", 0), ("_law_p", 1), ("_law_many", 2)] ["tuple", "range"] (defScope sFigs) = true := by decide +kernel
theorem ok_figs {f : Addr} {fd : FuncData} (F : Fun K "_law_figures" "_law_figures" sFigs f fd) (B : Bn mg) (D : Df P w K mg base 1 "_law_pull" ["_law_bag_here", "_law_many"] spPull) : FnOk P w K mg base CX0 2 f fd ["_law_bag_here", "_law_p", "_law_many"] spFigs := by
  refine F.ok scFigs (fun vs H Q E h => ?_) (fun cdv A outer s H vs Q E hr h => ?_)
  · obtain ⟨b, l, p, n, rfl, _⟩ := h
    rfl
  · obtain ⟨b, l, p, n, rfl, hB, p0, p1, n0, n1, k⟩ := h
    obtain ⟨b1, b2, b3, b4, b5, b6, b7, b8, b9, b10, b11⟩ := B
    refine' ex_mk ?d ?_
    case d =>
      have nm := nm_of (CX := CX0) (P := P) (w := w) (K := K) (mg := mg) (base := base) (outer := outer) (H := H) (E := E) nmFigs hr
      refine' pss_one (ps_ret (n_t (x := "tuple") nm (by walk_at "as") call_tuple_of PyProof.Rows.boot_tuple ?bg (pa_cons ?lc pa_nil)))
      case bg => walk_at "mem"
      case lc =>
        refine' n_lc (own := [("_law_k", 3)]) (g := gName 3) (NS' := [("_law_bag_here", 0), ("_law_p", 1)]) (WS' := [("_law_k", 3)]) (G' := ["_law_pull"]) (N := ["_law_bag_here", "_law_p", "_law_many", "_law_k"]) (scD := defScope sFigs) nm rfl rfl (by decide +kernel) (by decide +kernel) ?li (fun X' nm2 => ?lg) (fun X' nm2 => ?le)
        case li => walk_at "pi"
        case lg => walk_at "pg"
        case le => walk_at "pe"
    refine ⟨_, rfl, n, rfl, by omega, by omega, fun Dl hD => ?_⟩
    have nDb : Dl ≠ b := hB.ne hD
    refine lc_range (lo := 0) (n := n.toNat) (fun i H' => Stp b l H H' ∧ ∃ ds : List Int, ds.length = i ∧ H' Dl = some (.lst (ds.map V.int)) ∧ ∀ d ∈ ds, 0 ≤ d ∧ d < p) ?_ ?_ ?_
    · exact ⟨hB.stp.add hD, [], rfl, upd_same, fun d hd => absurd hd (by simp)⟩
    · rintro i H' hi ⟨st, ds, hl, hd, hp⟩
      refine ⟨rfl, yes_ ?_⟩
      refine ⟨_, rfl, _, rfl, b, l, p, rfl, st.2, p0, by omega, fun H2 d st2 d0 d1 => ?_⟩
      have e2 := st2.1 _ _ nDb hd
      refine ⟨_, e2, ?_, ?_⟩
      · rw [List.length_map]
        exact small1000 (by omega)
      · refine ⟨(st.trans st2).put hB hD, ds ++ [d], by simp [hl], ?_, fun x hx => ?_⟩
        · rw [upd_same, List.map_append]; rfl
        · rcases List.mem_append.mp hx with hx | hx
          · exact hp x hx
          · rw [List.mem_singleton.mp hx]; exact ⟨d0, d1⟩
    · rintro H' ⟨st, ds, hl, hd, hp⟩
      refine ⟨Dl, _, rfl, .inl ⟨SqL.of hd, fun t ht => ?_⟩⟩
      exact k _ t ds (st.add ht) (st.free ht) upd_same (by omega) hp
end

section
variable {P : Program} {w : World} {K : PySem.W.Frag} {mg : Str → Option Value} {base : Heap}
theorem scPlain : FnScope ["_law_bag_here", "_law_p", "_law_top", "_law_many", "_law_rows", "_law_k"] ["_law_bag_here", "_law_p", "_law_top"] (defScope sPlain) := ⟨rfl, rfl, rfl, by decide +kernel, rfl, by decide +kernel, by decide +kernel⟩
theorem nmPlain : nmB ["_law_bag_here", "_law_p", "_law_top", "_law_many", "_law_rows", "_law_k"] [("_law_bag_here", 0), ("_law_p", 1), ("_law_top", 2), ("_law_many", 3), ("_law_rows", 4), ("_law_k", 5)] ["_law_pull", "_law_of", "_law_figures", "range"] (defScope sPlain) = true := by decide +kernel
theorem ok_plain {f : Addr} {fd : FuncData} (F : Fun K "_law_plain" "_law_plain" sPlain f fd) (B : Bn mg) (D : Df P w K mg base 1 "_law_pull" ["_law_bag_here", "_law_many"] spPull) (D2 : Df P w K mg base 2 "_law_of" ["_law_bag_here", "_law_some"] spOf)
    (D3 : Df P w K mg base 2 "_law_figures" ["_law_bag_here", "_law_p", "_law_many"] spFigs) : FnOk P w K mg base CX0 3 f fd ["_law_bag_here", "_law_p", "_law_top"] spPlain := by
  refine F.ok scPlain (fun vs H Q E h => ?_) (fun cdv A outer s H vs Q E hr h => ?_)
  · obtain ⟨b, l, p, n, rfl, _⟩ := h
    rfl
  · obtain ⟨b, l, p, n, rfl, hB, hP, n0, n1, k⟩ := h
    have hp2 := hP.two
    obtain ⟨b1, b2, b3, b4, b5, b6, b7, b8, b9, b10, b11⟩ := B
    refine' ex_mk ?d ?_
    case d =>
      have nm := nm_of (CX := CX0) (P := P) (w := w) (K := K) (mg := mg) (base := base) (outer := outer) (H := H) (E := E) nmPlain hr
      walk_at "pss"
    refine ⟨_, rfl, _, rfl, b, l, n, rfl, hB, n0, by omega, fun H1 d st1 d0 d1 => ?_⟩
    refine ⟨_, _, rfl, rfl, Nat.zero_le _, fun r hr1 => ?_⟩
    have hr0 : H r = none := st1.free hr1
    have em : ((1 + d).toNat : Int) = 1 + d := by omega
    refine ⟨_, rfl, _, rfl, by omega, by omega, for_range (lo := 0) (n := (1 + d).toNat) (fun i σ H' => ∃ (v : Option V) (xs : List V) (M : List (Int × List Int)), σ = [some (.ref b), some (.int p), some (.int n), some (.int (1 + d)), some (.ref r), v] ∧ Stp b l H H' ∧ H' r = some (.lst xs) ∧ StsAt H' xs M ∧ OkM p (1 + d) M ∧ M.length = i)
      ⟨none, [], [], rfl, st1.add hr1, upd_same, ⟨rfl, fun i x s h => by simp at h⟩, ⟨fun s h => by simp at h, fun s h => by simp at h, fun s h => by simp at h⟩, rfl⟩ ?_ ?_⟩
    · rintro i σ H' hi ⟨v, xs, M, rfl, st, hr', hM, hO, hl⟩
      have nrb : r ≠ b := hB.ne hr0
      refine ⟨_, rfl, .inl ⟨rfl, _, SqL.of hr'⟩, ?_⟩
      refine ⟨_, rfl, _, rfl, _, _, rfl, rfl, _, rfl, _, rfl, b, l, p, rfl, st.2, by omega, by omega, fun H2 e st2 e0 e1 => ?_⟩
      refine ⟨by show 5 ≤ sizeLine; decide, fun a ha => ?_⟩
      refine ⟨b, l, a, _, rfl, st2.2.new ha, upd_same, st2.2.ne ha, by show 0 < 5; decide, by show 5 ≤ 1000; decide, fun H3 j x st3 hx => ?_⟩
      obtain ⟨tn, rfl, t0, t1⟩ : ∃ tn : Int, x = .int tn ∧ 0 ≤ tn ∧ tn < p := by
        match j, hx with
        | 0, hx => obtain rfl := Option.some.inj hx; exact ⟨_, rfl, by omega, by omega⟩
        | 1, hx => obtain rfl := Option.some.inj hx; exact ⟨_, rfl, by omega, by omega⟩
        | 2, hx => obtain rfl := Option.some.inj hx; exact ⟨_, rfl, by omega, by omega⟩
        | 3, hx => obtain rfl := Option.some.inj hx; exact ⟨_, rfl, by omega, by omega⟩
        | 4, hx => obtain rfl := Option.some.inj hx; exact ⟨_, rfl, e0, e1⟩
        | n + 5, hx => exact absurd hx (by simp)
      have s23 : Stp b l H2 H3 := ⟨keep_trans (keep_new ha) st3.1, st3.2⟩
      refine ⟨_, rfl, _, rfl, _, rfl, b, l, 1 + d, p, rfl, st3.2, by omega, by omega, by omega, by omega, fun H4 t ds st4 ht4 ht hdl hds => ?_⟩
      refine ⟨by show 2 ≤ sizeLine; decide, fun q hq => ?_⟩
      have sx : Stp b l H' H4 := (st2.trans s23).trans st4
      have hr4 : H4 r = some (.lst xs) := sx.1 r _ nrb hr'
      have hr5 : upd H4 q (.tup [.int tn, .ref t]) r = some (.lst xs) := by rw [upd_ne (ne_of_none hr4 hq)]; exact hr4
      refine ⟨r, _, _, rfl, rfl, hr5, ?_, ?_⟩
      · rw [hM.1, hl]
        exact small1000 (by omega)
      · have hM4 : StsAt (upd H4 q (.tup [.int tn, .ref t])) xs M := (hM.keep st.2 sx.1).same (same_new hq)
        have hS4 : StAt (upd H4 q (.tup [.int tn, .ref t])) (.ref q) (tn, ds) := ⟨q, t, rfl, upd_same, by rw [upd_ne (ne_of_none ht hq)]; exact ht⟩
        refine ⟨_, xs ++ [.ref q], M ++ [(tn, ds)], rfl, ((st.trans sx).add hq).put hB hr0, upd_same, (hM4.snoc hS4).lst hr5, ⟨fun s h => ?_, fun s h => ?_, fun s h => ?_⟩, by simp [hl]⟩
        · rcases List.mem_append.mp h with h | h
          · exact hO.turn s h
          · rw [List.mem_singleton.mp h]; exact ⟨t0, t1⟩
        · rcases List.mem_append.mp h with h | h
          · exact hO.many s h
          · rw [List.mem_singleton.mp h]; exact hdl
        · rcases List.mem_append.mp h with h | h
          · exact hO.goal s h
          · rw [List.mem_singleton.mp h]; exact hds
    · rintro σ H' ⟨v, xs, M, rfl, st, hr', hM, hO, hl⟩
      have nrb : r ≠ b := hB.ne hr0
      refine ⟨_, rfl, _, rfl, _, rfl, _, rfl, b, l, 1 + d, rfl, st.2, by omega, by omega, fun H2 e st2 e0 e1 => ?_⟩
      refine ⟨by show 3 ≤ sizeLine; decide, fun t ht => ?_⟩
      have hr2 := st2.1 r _ nrb hr'
      have eL : (M.length : Int) = 1 + d := by omega
      refine k _ t r xs M e ((st.trans st2).add ht) ((st.trans st2).free ht) hr0 upd_same (by rw [upd_ne (ne_of_none hr2 ht)]; exact hr2) ((hM.keep st.2 st2.1).same (same_new ht)) (by rw [eL]; exact hO) (by omega) (by omega) e0 (by omega)
end

abbrev sNum : Stmt := top 24
abbrev sBel : Stmt := top 25
abbrev sChP : Stmt := top 26
abbrev sIsS : Stmt := top 29
abbrev sChS : Stmt := top 30
/-- the kind of a value -/
def Kd (K : PySem.W.Frag) (H : Hp) (v : V) (T : String) : Prop := TyX K H v (.type T) ∧ (T = "NoneType" ∨ T = "bool" ∨ T = "int" ∨ T = "str" ∨ T = "list" ∨ T = "tuple")
theorem kd_int {K : PySem.W.Frag} {H : Hp} (i : Int) : Kd K H (.int i) "int" := ⟨.base (.int i), .inr (.inr (.inl rfl))⟩
def spNum (K : PySem.W.Frag) : Sp := fun vs H Q _ => ∃ v T, vs = [v] ∧ Kd K H v T ∧ Q (.bl (decide (T = "int"))) H
def belowV (v : V) (n : Int) : Bool := match v with
  | .int i => decide (0 ≤ i) && decide (i < n)
  | _ => false
def spBel (K : PySem.W.Frag) : Sp := fun vs H Q _ => ∃ v T n, vs = [v, .int n] ∧ Kd K H v T ∧ Q (.bl (belowV v n)) H
theorem Kd.ofInt {K : PySem.W.Frag} {H : Hp} {v : V} (h : Kd K H v "int") : ∃ i, v = .int i := by
  obtain ⟨h, _⟩ := h
  generalize e : Value.type "int" = t at h
  cases h with
  | base b => cases b with
    | int i => exact ⟨i, rfl⟩
    | non => injection e with e; exact absurd e (by decide)
    | bl x => injection e with e; exact absurd e (by decide)
    | str x => injection e with e; exact absurd e (by decide)
    | flt x => injection e with e; exact absurd e (by decide)
    | lst h => injection e with e; exact absurd e (by decide)
    | frz h => injection e with e; exact absurd e (by decide)
    | tup h => injection e with e; exact absurd e (by decide)
    | dK h => injection e with e; exact absurd e (by decide)
    | dT h => injection e with e; exact absurd e (by decide)
    | ins h => cases e
  | byt b => injection e with e; exact absurd e (by decide)
  | set h => injection e with e; exact absurd e (by decide)
  | kList h c => injection e with e; exact absurd e (by decide)
  | kTuple h c => injection e with e; exact absurd e (by decide)
  | kDict h c => injection e with e; exact absurd e (by decide)
  | fTuple h => injection e with e; exact absurd e (by decide)
  | fDict h => injection e with e; exact absurd e (by decide)
theorem Kd.notInt {K : PySem.W.Frag} {H : Hp} {v : V} {T : String} (h : Kd K H v T) (n : T ≠ "int") : ∀ i, v ≠ .int i := by
  rintro i rfl
  obtain ⟨h, _⟩ := h
  generalize e : Value.type T = t at h
  cases h with
  | base b => cases b with
    | int i => injection e with e; exact n e
section
variable {P : Program} {w : World} {K : PySem.W.Frag} {mg : Str → Option Value} {base : Heap}
theorem scNum : FnScope ["value"] ["value"] (defScope sNum) := ⟨rfl, rfl, rfl, by decide +kernel, rfl, by decide +kernel, by decide +kernel⟩
theorem nmNum : nmB ["value"] [("value", 0)] ["isinstance", "int", "bool"] (defScope sNum) = true := by decide +kernel
theorem kit_int {T : String} (h : T = "NoneType" ∨ T = "bool" ∨ T = "int" ∨ T = "str" ∨ T = "list" ∨ T = "tuple") : kitB T "int" = some (decide (T = "int" ∨ T = "bool")) := by
  rcases h with h | h | h | h | h | h <;> subst h <;> decide +kernel
theorem kit_bool {T : String} (h : T = "NoneType" ∨ T = "bool" ∨ T = "int" ∨ T = "str" ∨ T = "list" ∨ T = "tuple") : kitB T "bool" = some (decide (T = "bool")) := by
  rcases h with h | h | h | h | h | h <;> subst h <;> decide +kernel
theorem ok_num {f : Addr} {fd : FuncData} (F : Fun K "is_number" "is_number" sNum f fd) (B : Bn mg) : FnOk P w K mg base CX0 1 f fd ["value"] (spNum K) := by
  refine F.ok scNum (fun vs H Q E h => ?_) (fun cdv A outer s H vs Q E hr h => ?_)
  · obtain ⟨v, T, rfl, _⟩ := h
    rfl
  · obtain ⟨v, T, rfl, hk, k⟩ := h
    obtain ⟨b1, b2, b3, b4, b5, b6, b7, b8, b9, b10, b11⟩ := B
    refine' ex_mk ?d ?_
    case d =>
      have nm := nm_of (CX := CX0) (P := P) (w := w) (K := K) (mg := mg) (base := base) (outer := outer) (H := H) (E := E) nmNum hr
      walk_at "pss"
    refine ⟨_, rfl, _, _, _, _, _, rfl, .ty "int", hk.1, kit_ty (kit_int hk.2), _, rfl, ?_⟩
    by_cases c : T = "int" ∨ T = "bool"
    · rw [decide_eq_true c]
      refine iteT ?_
      refine ⟨_, rfl, _, _, _, _, _, rfl, .ty "bool", hk.1, kit_ty (kit_bool hk.2), _, rfl, ?_⟩
      have e : (!decide (T = "bool")) = decide (T = "int") := by
        rcases c with c | c <;> subst c <;> decide
      rw [e]
      exact k
    · rw [decide_eq_false c]
      refine iteF ?_
      have e : decide (T = "int") = false := decide_eq_false fun z => c (.inl z)
      rw [e] at k
      exact k
theorem scBel : FnScope ["value", "bound"] ["value", "bound"] (defScope sBel) := ⟨rfl, rfl, rfl, by decide +kernel, rfl, by decide +kernel, by decide +kernel⟩
theorem nmBel : nmB ["value", "bound"] [("value", 0), ("bound", 1)] ["is_number"] (defScope sBel) = true := by decide +kernel
theorem ok_bel {f : Addr} {fd : FuncData} (F : Fun K "is_below" "is_below" sBel f fd) (D : Df P w K mg base 1 "is_number" ["value"] (spNum K)) : FnOk P w K mg base CX0 2 f fd ["value", "bound"] (spBel K) := by
  refine F.ok scBel (fun vs H Q E h => ?_) (fun cdv A outer s H vs Q E hr h => ?_)
  · obtain ⟨v, T, n, rfl, _⟩ := h
    rfl
  · obtain ⟨v, T, n, rfl, hk, k⟩ := h
    refine' ex_mk ?d ?_
    case d =>
      have nm := nm_of (CX := CX0) (P := P) (w := w) (K := K) (mg := mg) (base := base) (outer := outer) (H := H) (E := E) nmBel hr
      walk_at "pss"
    refine ⟨_, rfl, v, T, rfl, hk, _, rfl, ?_⟩
    by_cases c : T = "int"
    · subst c
      obtain ⟨i, rfl⟩ := hk.ofInt
      rw [decide_eq_true rfl]
      refine iteT ?_
      refine ⟨_, rfl, _, _, rfl, rfl, _, rfl, ?_⟩
      have k' : Q (.bl (decide (0 ≤ i) && decide (i < n))) H := k
      by_cases c1 : (0 : Int) ≤ i
      · rw [decide_eq_true c1, Bool.true_and] at k'
        rw [decide_eq_true c1]
        refine iteT ?_
        exact ⟨_, rfl, _, _, rfl, rfl, k'⟩
      · rw [decide_eq_false c1, Bool.false_and] at k'
        rw [decide_eq_false c1]
        exact iteF k'
    · rw [decide_eq_false c]
      refine iteF ?_
      have e : belowV v n = false := by
        cases v with
        | int i => exact absurd rfl (hk.notInt c i)
        | _ => rfl
      rw [e] at k
      exact k
end

abbrev sCp : Stmt := top 2
/-- copied: the same data, its lists and tuples made anew -/
def spCp (K : PySem.W.Frag) (n : Nat) : Sp := fun vs H Q _ => ∃ (v : V) (d : PyData) (c : Nat), vs = [v] ∧ Dp K H v d ∧ GoodD n d c ∧ ∀ H' v', Same H H' → Dp K (newOf H H') v' d → Q v' H'
theorem butD_sub {D : Addr} {H : Hp} : Same (butD D H) H := fun a o z => by
  unfold butD at z
  split at z
  · cases z
  · exact z
section
variable {P : Program} {w : World} {K : PySem.W.Frag} {mg : Str → Option Value} {base : Heap}
theorem scCp : FnScope ["value", "item"] ["value"] (defScope sCp) := ⟨rfl, rfl, rfl, by decide +kernel, rfl, by decide +kernel, by decide +kernel⟩
theorem nmCp : nmB ["value", "item"] [("value", 0)] ["isinstance", "list", "tuple"] (defScope sCp) = true := by decide +kernel
theorem kit_lt {T : String} (h : T = "NoneType" ∨ T = "bool" ∨ T = "int" ∨ T = "str") : kitB T "list" = some false ∧ kitB T "tuple" = some false := by
  rcases h with h | h | h | h <;> subst h <;> exact ⟨by decide +kernel, by decide +kernel⟩
theorem ok_cp {n : Nat} {f : Addr} {fd : FuncData} (F : Fun K "copied" "copied" sCp f fd) (B : Bn mg) (D : ∀ m, n = m + 1 → Df P w K mg base n "copied" ["value"] (spCp K m)) : FnOk P w K mg base CX0 (n + 1) f fd ["value"] (spCp K n) := by
  refine F.ok scCp (fun vs H Q E h => ?_) (fun cdv A outer s H vs Q E hr h => ?_)
  · obtain ⟨v, d, c, rfl, _⟩ := h
    rfl
  · obtain ⟨v, d, c, rfl, hd, hg, k⟩ := h
    obtain ⟨b1, b2, b3, b4, b5, b6, b7, b8, b9, b10, b11⟩ := B
    by_cases hf : flatV v = true
    · refine' ex_mk ?d ?_
      case d =>
        have nm := nm_of (CX := CX0) (P := P) (w := w) (K := K) (mg := mg) (base := base) (outer := outer) (H := H) (E := E) nmCp hr
        refine' pss_cons (ps_if ?c1 (pss_one ps_never) pss_nil) (pss_cons (ps_if ?c2 (pss_one ps_never) pss_nil) (pss_one ?ret))
        case c1 => walk_at "pt"
        case c2 => walk_at "pt"
        case ret => walk_at "ps"
      obtain ⟨T, ty, hT⟩ := ty_flat (K := K) (H := H) hf
      obtain ⟨k1, k2⟩ := kit_lt hT
      refine ⟨_, rfl, _, _, _, _, _, rfl, .ty "list", ty, kit_ty k1, _, rfl, ?_⟩
      refine iteF ?_
      refine ⟨_, rfl, _, _, _, _, _, rfl, .ty "tuple", ty, kit_ty k2, _, rfl, ?_⟩
      refine iteF ?_
      exact ⟨_, rfl, k H v (fun _ _ e => e) (goodD_flat (n := n) (c := c) hd hf _)⟩
    · have step : ∀ {xs : List V} {ds : List PyData} {cs : List Nat} {m : Nat} {H2 : Hp} {Dl j : Nat} {x : V} {Qk : V → Hp → Prop}, xs.length = ds.length → cs.length = ds.length → DpAll K H xs ds → (∀ (i : Nat) d k, ds[i]? = some d → cs[i]? = some k → GoodD m d k) → H Dl = none → Same H H2 → (∃ ys, H2 Dl = some (.lst ys)) → xs[j]? = some x →
          (∀ y H3, Same H2 H3 → (∀ d, ds[j]? = some d → Dp K (butD Dl (newOf H H3)) y d) → Qk y H3) → spCp K m [x] H2 Qk (fun _ _ _ => False) := by
        intro xs ds cs m H2 Dl j x Qk e1 e2 ha hall hD s2 hDl hx kk
        obtain ⟨_, f2⟩ := dpAll_at ha
        have hj := (List.getElem?_eq_some_iff.mp hx).1
        have hdj : ds[j]? = some ds[j] := List.getElem?_eq_getElem (by omega)
        have hcj : cs[j]? = some cs[j] := List.getElem?_eq_getElem (by omega)
        refine ⟨x, _, _, rfl, dp_same s2 _ _ (f2 j x _ hx hdj), hall j _ _ hdj hcj, fun H3 v' s3 hv => ?_⟩
        refine kk v' H3 s3 fun d hd => ?_
        rw [hdj] at hd
        obtain rfl := Option.some.inj hd
        refine dp_same (fun a o e => ?_) _ _ hv
        have n2 := newOf_old e
        have nD : a ≠ Dl := fun z => by
          obtain ⟨ys, hy⟩ := hDl
          rw [z, hy] at n2
          cases n2
        have nH : H a = none := by
          cases q : H a with
          | none => rfl
          | some u => rw [s2 _ _ q] at n2; cases n2
        show butD Dl (newOf H H3) a = some o
        unfold butD
        rw [if_neg nD]
        exact newOf_at nH (newOf_same _ _ e)
      cases hd with
      | non => exact absurd rfl hf
      | bl b => exact absurd rfl hf
      | int i => exact absurd rfl hf
      | str x => exact absurd rfl hf
      | @lst a xs ds hs ha =>
        cases n with
        | zero => exact hg.elim
        | succ m =>
          obtain ⟨hlen, cs, el, hcs, hall⟩ := hg
          obtain ⟨e2, f2⟩ := dpAll_at ha
          have D1 := D m rfl
          refine' ex_mk ?d ?_
          case d =>
            have nm := nm_of (CX := CX0) (P := P) (w := w) (K := K) (mg := mg) (base := base) (outer := outer) (H := H) (E := E) nmCp hr
            refine' pss_cons (ps_if ?c1 (pss_one (ps_ret ?lc)) pss_nil) (pss_cons (ps_if ?c2 (pss_one ps_never) pss_nil) (pss_one ?ret))
            case c1 => walk_at "pt"
            case c2 => walk_at "pt"
            case ret => walk_at "ps"
            case lc =>
              refine' n_lc (own := [("item", 1)]) (g := gName 1) (NS' := [("item", 1)]) (WS' := [("item", 1)]) (G' := ["copied"]) (N := ["value", "item"]) (scD := defScope sCp) nm rfl rfl (by decide +kernel) (by decide +kernel) (pi_list ?li) (fun X' nm2 => ?lg) (fun X' nm2 => ?le)
              case li => walk_at "pe"
              case lg => walk_at "pg"
              case le =>
                refine' n_d nm2 D1 (Nat.le_refl _) ?ug ?ua
                case ug => walk_at "mem"
                case ua => walk_at "pa"
          refine ⟨_, rfl, _, _, _, _, _, rfl, .ty "list", ty_l hs, kit_ty (by decide +kernel : kitB "list" "list" = some true), _, rfl, ?_⟩
          refine iteT ?_
          refine ⟨_, rfl, a, rfl, ⟨_, hs⟩, fun Dl hD => ?_⟩
          have J := sj_L (K := K) (a := a) (xs := xs) (S := Same H) fun H5 s5 => sqL_same s5 hs
          refine lcB (K := K) (xs := xs) (R := fun i y H' => ∀ d, ds[i]? = some d → Dp K (butD Dl (newOf H H')) y d) hD (small1000 (by omega))
            (fun H2 j s2 hj => J.go H2 j _ s2 (List.getElem?_eq_getElem hj)) (fun H2 s2 => J.stop H2 s2) (fun i y H2 H3 e h d hd => dp_same (fun a o z => ?_) _ _ (h d hd)) (fun i y H2 zs h d hd => ?_) ?_ ?_ gm_nm
          · unfold butD newOf at z ⊢
            split at z
            · cases z
            · rename_i q
              rw [if_neg q]
              split at z
              · cases z
              · rename_i q2
                rw [if_neg q2]
                exact e _ _ z
          · have e0 : butD Dl (newOf H (upd H2 Dl (.lst zs))) = butD Dl (newOf H H2) := by
              funext b
              unfold butD newOf
              by_cases hb : b = Dl
              · rw [if_pos hb, if_pos hb]
              · rw [if_neg hb, if_neg hb, upd_ne hb]
            rw [e0]
            exact h d hd
          · intro j x H2 v H3 Qk hx s2 hDl hy kk
            obtain ⟨rfl, hv⟩ := J.yl H2 j v H3 s2 hy
            exact ⟨rfl, _, rfl, step e2 el ha hall hD s2 hDl hv kk⟩
          · intro ys H2 s2 hDl hl hRs
            refine k H2 (.ref Dl) s2 (.lst (SqL.of (newOf_at hD hDl)) (dpAll_of (by omega) fun i y d h1 h2 => ?_))
            exact dp_same butD_sub _ _ (hRs i y h1 d h2)
      | @tup a xs ds hs ha =>
        cases n with
        | zero => exact hg.elim
        | succ m =>
          obtain ⟨hlen, cs, el, hcs, hall⟩ := hg
          obtain ⟨e2, f2⟩ := dpAll_at ha
          have D1 := D m rfl
          refine' ex_mk ?d ?_
          case d =>
            have nm := nm_of (CX := CX0) (P := P) (w := w) (K := K) (mg := mg) (base := base) (outer := outer) (H := H) (E := E) nmCp hr
            refine' pss_cons (ps_if ?c1 (pss_one ps_never) pss_nil) (pss_cons (ps_if ?c2 (pss_one (ps_ret (n_t (x := "tuple") nm (by walk_at "as") call_tuple_of PyProof.Rows.boot_tuple ?bg (pa_cons ?lc pa_nil)))) pss_nil) (pss_one ?ret))
            case c1 => walk_at "pt"
            case c2 => walk_at "pt"
            case bg => walk_at "mem"
            case ret => walk_at "ps"
            case lc =>
              refine' n_lc (own := [("item", 1)]) (g := gName 1) (NS' := [("item", 1)]) (WS' := [("item", 1)]) (G' := ["copied"]) (N := ["value", "item"]) (scD := defScope sCp) nm rfl rfl (by decide +kernel) (by decide +kernel) (pi_tup ?li) (fun X' nm2 => ?lg) (fun X' nm2 => ?le)
              case li => walk_at "pe"
              case lg => walk_at "pg"
              case le =>
                refine' n_d nm2 D1 (Nat.le_refl _) ?ug ?ua
                case ug => walk_at "mem"
                case ua => walk_at "pa"
          refine ⟨_, rfl, _, _, _, _, _, rfl, .ty "list", ty_t hs, kit_ty (by decide +kernel : kitB "tuple" "list" = some false), _, rfl, ?_⟩
          refine iteF ?_
          refine ⟨_, rfl, _, _, _, _, _, rfl, .ty "tuple", ty_t hs, kit_ty (by decide +kernel : kitB "tuple" "tuple" = some true), _, rfl, ?_⟩
          refine iteT ?_
          refine ⟨_, rfl, a, rfl, ⟨_, hs⟩, fun Dl hD => ?_⟩
          have J := sj_T (K := K) (a := a) (xs := xs) (S := Same H) fun H5 s5 => sqT_same s5 hs
          refine lcB (K := K) (xs := xs) (R := fun i y H' => ∀ d, ds[i]? = some d → Dp K (butD Dl (newOf H H')) y d) hD (small1000 (by omega))
            (fun H2 j s2 hj => J.go H2 j _ s2 (List.getElem?_eq_getElem hj)) (fun H2 s2 => J.stop H2 s2) (fun i y H2 H3 e h d hd => dp_same (fun a o z => ?_) _ _ (h d hd)) (fun i y H2 zs h d hd => ?_) ?_ ?_ gm_nm
          · unfold butD newOf at z ⊢
            split at z
            · cases z
            · rename_i q
              rw [if_neg q]
              split at z
              · cases z
              · rename_i q2
                rw [if_neg q2]
                exact e _ _ z
          · have e0 : butD Dl (newOf H (upd H2 Dl (.lst zs))) = butD Dl (newOf H H2) := by
              funext b
              unfold butD newOf
              by_cases hb : b = Dl
              · rw [if_pos hb, if_pos hb]
              · rw [if_neg hb, if_neg hb, upd_ne hb]
            rw [e0]
            exact h d hd
          · intro j x H2 v H3 Qk hx s2 hDl hy kk
            obtain ⟨rfl, hv⟩ := J.yl H2 j v H3 s2 hy
            exact ⟨rfl, _, rfl, step e2 el ha hall hD s2 hDl hv kk⟩
          · intro ys H2 s2 hDl hl hRs
            refine ⟨Dl, _, rfl, .inl ⟨SqL.of hDl, fun q hq => ?_⟩⟩
            have nq : H q = none := s2.free hq
            refine k _ (.ref q) (Same.trans s2 (same_new hq)) (.tup (SqT.of (newOf_at nq upd_same)) (dpAll_of (by omega) fun i y d h1 h2 => ?_))
            refine dp_same (fun a o z => ?_) _ _ (hRs i y h1 d h2)
            unfold butD newOf at z
            unfold newOf
            split at z
            · cases z
            · split at z
              · cases z
              · rename_i q2
                rw [if_neg q2, upd_ne (ne_of_none z hq)]
                exact z
theorem copied_all {f : Addr} {fd : FuncData} (F : Fun K "copied" "copied" sCp f fd) (B : Bn mg) (hm : mg "copied" = some (.ref f)) (hk : PySem.W.keepIn K (.ref f) = true) (hb : Binds K fd ["value"] []) : ∀ n, FnOk P w K mg base CX0 (n + 1) f fd ["value"] (spCp K n)
  | 0 => ok_cp F B fun m h => by cases h
  | n + 1 => ok_cp F B fun m h => by
    obtain rfl : n = m := Nat.succ.inj h
    exact ⟨⟨f, fd, hm, hk, hb, copied_all F B hm hk hb n⟩⟩
end

/-- one argument, told as data -/
def vs1 (K : PySem.W.Frag) : List V → Hp → List PyData → Prop := fun ws H ds => ∃ (v : V) (d : PyData) (c : Nat), ws = [v] ∧ ds = [d] ∧ Dp K H v d ∧ GoodD 8 d c ∧ c ≤ 1000000
/-- no argument -/
def vs0 : List V → Hp → List PyData → Prop := fun ws _ ds => ws = [] ∧ ds = []
abbrev sE_PrimesDiffer : Stmt := inClass (top 15) 0
section
variable {P : Program} {w : World} {K : PySem.W.Frag} {mg : Str → Option Value} {base : Heap}
theorem scE_PrimesDiffer : NdefX.NScope ["self", "__class__"] ["self"] ["__class__"] (defScope sE_PrimesDiffer) := NdefX.nscope_by (by decide +kernel)
theorem nmE_PrimesDiffer : nmB ["self", "__class__"] [("self", 0)] [] (defScope sE_PrimesDiffer) = true := by decide +kernel
theorem okE_PrimesDiffer {f C cc cda : Addr} {fd : FuncData} (FC : FunC P K mg "__init__" "PrimesDiffer.__init__" sE_PrimesDiffer f C cc cda fd "ValueError.__init__") (T : OexC K C) (N : ErrN K C "PrimesDiffer") (n2 : NoAttr K C "code") (n3 : NoAttr K C "details") :
    FnOk P w K mg base CX0 10 f fd ["self"] (spErr K C "PrimesDiffer" vs0) := by
  refine funC_ok (k := 9) FC T scE_PrimesDiffer rfl (fun vs H Q E h => ?_) rfl fun A outer s H vs Q E hr h => ?_
  · obtain ⟨a, ws, ds, rfl, _, ⟨rfl, _⟩, _⟩ := h
    rfl
  · obtain ⟨a, ws, ds, rfl, ha, ⟨rfl, rfl⟩, k⟩ := h
    have nm := nm_ncx (CX := CX0) (P := P) (w := w) (K := K) (mg := mg) (base := base) (N := ["self", "__class__"]) (F := nfOf "__init__" "PrimesDiffer.__init__" sE_PrimesDiffer cc cda) (f := f) (A := A) (outer := outer) (s := s) (H := H) (E := E) nmE_PrimesDiffer scE_PrimesDiffer.nocell hr
    refine' ⟨a, _, _, _, rfl, ha, ⟨rfl, rfl, rfl, rfl, rfl⟩, pa_cons pe_str pa_nil, ?ps, ?go⟩
    case ps =>
      refine' pss_cons (ps_ost ?e2 (pe_errN0 ?e3)) (pss_one (ps_ost ?e4 (pe_tup pa_nil)))
      case e2 => walk_at "pe"
      case e3 => walk_at "pe"
      case e4 => walk_at "pe"
    case go =>
      intro Pc hPc
      refine ⟨by show 1 ≤ 1000; decide, ha, hPc _ ?_⟩
      refine ⟨_, rfl, a, C, "PrimesDiffer", rfl, ha, N, ?_⟩
      refine ⟨_, rfl, a, C, rfl, T, n2, .inl ⟨ha, fun dx hdx ndx => ?_⟩⟩
      generalize hH3 : upd (upd H dx (exd dx [("code", .str "PrimesDiffer")])) a (exo a C (some dx)) = H3
      have a3 : H3 a = some (exo a C (some dx)) := by rw [← hH3, upd_same]
      have d3 : H3 dx = some (exd dx [("code", .str "PrimesDiffer")]) := by rw [← hH3, upd_ne ndx, upd_same]
      have k3 : ∀ b o, b ≠ a → H b = some o → H3 b = some o := fun b o n z => by
        rw [← hH3, upd_ne n, upd_ne (ne_of_none z hdx)]
        exact z
      refine ⟨Nat.zero_le _, fun p hp => ?_⟩
      have np : ∀ {b : Addr} {o : HO}, H3 b = some o → b ≠ p := fun {b o} z => ne_of_none z hp
      have a5 : (upd H3 p (.tup [])) a = some (exo a C (some dx)) := by rw [upd_ne (np a3)]; exact a3
      have d5 : (upd H3 p (.tup [])) dx = some (exd dx [("code", .str "PrimesDiffer")]) := by rw [upd_ne (np d3)]; exact d3
      refine ⟨_, rfl, a, C, rfl, T, n3, .inr ⟨dx, _, a5, d5, by show 1 ≤ 900; decide, ?_⟩⟩
      have pdx : p ≠ dx := Ne.symm (np d3)
      have pa : p ≠ a := Ne.symm (np a3)
      refine k _ dx p _ (fun b o n z => ?_) hdx ?_ upd_same rfl rfl (.tup (xs := []) (SqT.of ?_) .nil)
      · rw [upd_ne (ne_of_none z hdx), upd_ne (np (k3 b o n z))]
        exact k3 b o n z
      · rw [upd_ne (Ne.symm ndx)]
        exact a5
      · have hp0 : H p = none := by
          cases q : H p with
          | none => rfl
          | some o => rw [k3 p o pa q] at hp; cases hp
        unfold butD
        rw [if_neg pdx, if_neg pa]
        refine newOf_at hp0 ?_
        rw [upd_ne pdx, upd_same]
end

/-- the constants of the module -/
structure Gv (K : PySem.W.Frag) (mg : Str → Option Value) (aP : Addr) (tD : Tok) : Prop where
  primes : mg "PRIMES" = some (.ref aP)
  four : ∀ H, SqT K H aP [.int 2, .int 3, .int 5, .int 7]
  dials : mg "MOST_DIALS" = some (.int 200 tD)
def spChP : Sp := fun vs H Q _ => ∃ p, vs = [.int p] ∧ IsP p ∧ Q .non H
def Figs (p : Int) (ds : List Int) : Prop := ∀ d ∈ ds, 0 ≤ d ∧ d < p
section
variable {P : Program} {w : World} {K : PySem.W.Frag} {mg : Str → Option Value} {base : Heap} {aP : Addr} {tD : Tok}
theorem scChP : FnScope ["prime"] ["prime"] (defScope sChP) := ⟨rfl, rfl, rfl, by decide +kernel, rfl, by decide +kernel, by decide +kernel⟩
theorem nmChP : nmB ["prime"] [("prime", 0)] ["is_number", "PRIMES"] (defScope sChP) = true := by decide +kernel
theorem ok_chp {f : Addr} {fd : FuncData} (F : Fun K "check_prime" "check_prime" sChP f fd) (g : Gv K mg aP tD) (D : Df P w K mg base 1 "is_number" ["value"] (spNum K)) : FnOk P w K mg base CX0 2 f fd ["prime"] spChP := by
  refine F.ok scChP (fun vs H Q E h => ?_) (fun cdv A outer s H vs Q E hr h => ?_)
  · obtain ⟨p, rfl, _⟩ := h
    rfl
  · obtain ⟨p, rfl, hP, k⟩ := h
    have g1 := g.primes
    refine' ex_mk ?d ?_
    case d =>
      have nm := nm_of (CX := CX0) (P := P) (w := w) (K := K) (mg := mg) (base := base) (outer := outer) (H := H) (E := E) nmChP hr
      walk_at "pss"
    refine ⟨_, rfl, _, _, rfl, kd_int p, _, rfl, ?_⟩
    refine iteF ?_
    refine ⟨_, rfl, aP, _, rfl, .inr (g.four H), rfl, rfl, _, rfl, ?_⟩
    have e : (!inV (V.int p) [.int 2, .int 3, .int 5, .int 7]) = false := by
      rcases hP with h | h | h | h <;> subst h <;> decide
    show if (!inV (V.int p) [.int 2, .int 3, .int 5, .int 7]) = true then _ else _
    rw [e]
    exact iteF k
theorem scIsS : FnScope ["prime", "value", "figure"] ["prime", "value"] (defScope sIsS) := ⟨rfl, rfl, rfl, by decide +kernel, rfl, by decide +kernel, by decide +kernel⟩
theorem nmIsS : nmB ["prime", "value", "figure"] [("prime", 0), ("value", 1)] ["check_prime", "isinstance", "tuple", "len", "MOST_DIALS", "all"] (defScope sIsS) = true := by decide +kernel
theorem belowV_in {p d : Int} (h : 0 ≤ d ∧ d < p) : belowV (.int d) p = true := by
  show (decide (0 ≤ d) && decide (d < p)) = true
  rw [decide_eq_true h.1, decide_eq_true h.2]; rfl
theorem all_rep (n : Nat) : (List.replicate n true).all id = true := by
  induction n with
  | zero => rfl
  | succ n ih => rw [List.replicate_succ, List.all_cons, ih]; rfl
theorem scChS : FnScope ["prime", "value"] ["prime", "value"] (defScope sChS) := ⟨rfl, rfl, rfl, by decide +kernel, rfl, by decide +kernel, by decide +kernel⟩
theorem nmChS : nmB ["prime", "value"] [("prime", 0), ("value", 1)] ["is_setting"] (defScope sChS) = true := by decide +kernel
end

/-- data that an error may tell -/
def Tell (K : PySem.W.Frag) (H : Hp) (v : V) (d : PyData) : Prop := ∃ c, Dp K H v d ∧ GoodD 8 d c ∧ c ≤ 1000000
theorem Tell.same {K : PySem.W.Frag} {H H' : Hp} {v : V} {d : PyData} (h : Tell K H v d) (e : Same H H') : Tell K H' v d := by
  obtain ⟨c, h1, h2, h3⟩ := h
  exact ⟨c, dp_same e _ _ h1, h2, h3⟩
theorem Tell.vs {K : PySem.W.Frag} {H : Hp} {v : V} {d : PyData} (h : Tell K H v d) : vs1 K [v] H [d] := by
  obtain ⟨c, h1, h2, h3⟩ := h
  exact ⟨v, d, c, rfl, rfl, h1, h2, h3⟩
abbrev sIsSt : Stmt := top 57
abbrev sFirst : Stmt := top 58
def spIsSt : Sp := fun vs H Q _ => ∃ (p n : Int) (v : V) (s : Int × List Int), vs = [.int p, v, .int n] ∧ StAt H v s ∧ 0 ≤ s.1 ∧ s.1 < p ∧ (s.2.length : Int) = p ∧ p ≤ 7 ∧ (∀ g ∈ s.2, 0 ≤ g ∧ g < n) ∧ ∀ H', Same H H' → Q (.bl true) H'
def spFirst : Sp := fun vs H Q _ => ∃ (p : Int) (a : Addr) (xs : List V) (M : List (Int × List Int)), vs = [.int p, .ref a] ∧ p ≤ 7 ∧ H a = some (.lst xs) ∧ StsAt H xs M ∧ OkM p (M.length : Int) M ∧ 0 < M.length ∧ M.length ≤ 240 ∧ ∀ H', Same H H' → Q .non H'
/-- the class as a value, its constant -/
structure Cv (K : PySem.W.Frag) (mg : Str → Option Value) (C : Addr) (mc u : Value) : Prop where
  mgC : mg "Turner" = some (.ref C)
  rd : ClX.CRead K C mc
  most : ClX.CVal K C mc "MOST" (.int 240) u
section
variable {P : Program} {w : World} {K : PySem.W.Frag} {mg : Str → Option Value} {base : Heap} {aP : Addr} {tD : Tok} {C : Addr} {mc u : Value}
theorem scIsSt : FnScope ["prime", "value", "many", "turn", "targets", "target"] ["prime", "value", "many"] (defScope sIsSt) := ⟨rfl, rfl, rfl, by decide +kernel, rfl, by decide +kernel, by decide +kernel⟩
theorem nmIsSt : nmB ["prime", "value", "many", "turn", "targets", "target"] [("prime", 0), ("value", 1), ("many", 2), ("turn", 3), ("targets", 4)] ["isinstance", "tuple", "len", "is_below", "all"] (defScope sIsSt) = true := by decide +kernel
theorem ok_isst {f : Addr} {fd : FuncData} (F : Fun K "_is_state" "_is_state" sIsSt f fd) (B : Bn mg) (D2 : Df P w K mg base 2 "is_below" ["value", "bound"] (spBel K)) : FnOk P w K mg base CX0 3 f fd ["prime", "value", "many"] spIsSt := by
  refine F.ok scIsSt (fun vs H Q E h => ?_) (fun cdv A outer s H vs Q E hr h => ?_)
  · obtain ⟨p, n, v, z, rfl, _⟩ := h
    rfl
  · obtain ⟨p, n, v, z, rfl, ⟨a, g, rfl, h1, h2⟩, t0, t1, hl, p7, hg, k⟩ := h
    obtain ⟨b1, b2, b3, b4, b5, b6, b7, b8, b9, b10, b11⟩ := B
    refine' ex_mk ?d ?_
    case d =>
      have nm := nm_of (CX := CX0) (P := P) (w := w) (K := K) (mg := mg) (base := base) (outer := outer) (H := H) (E := E) nmIsSt hr
      refine' pss_cons ?s1 (pss_cons ?s2 (pss_cons ?s3 (pss_one (ps_ret (n_b (x := "all") nm (by walk_at "as") (cr_all nm.calm) PyProof.Rows.boot_all ?bg (pa_cons ?lc pa_nil))))))
      case s1 => walk_at "ps"
      case s2 => walk_at "ps"
      case s3 => walk_at "ps"
      case bg => walk_at "mem"
      case lc =>
        refine' n_lc (own := [("target", 5)]) (g := gName 5) (NS' := [("many", 2), ("target", 5)]) (WS' := [("target", 5)]) (G' := ["is_below"]) (N := ["prime", "value", "many", "turn", "targets", "target"]) (scD := defScope sIsSt) nm rfl rfl (by decide +kernel) (by decide +kernel) (pi_tup ?li) (fun X' nm2 => ?lg) (fun X' nm2 => ?le)
        case li => walk_at "pe"
        case lg => walk_at "pg"
        case le => walk_at "pe"
    refine ⟨_, rfl, _, _, _, _, _, rfl, .ty "tuple", .base (.tup h1), kit_ty (by decide +kernel : kitB "tuple" "tuple" = some true), _, rfl, ?_⟩
    refine iteF ?_
    refine ⟨_, rfl, _, _, rfl, .inr (SqT.of h1), rfl, _, rfl, ?_⟩
    refine iteF ?_
    refine ⟨_, rfl, a, _, rfl, SqT.of h1, rfl, _, _, rfl, _, _, rfl, rfl, ?_⟩
    refine ⟨_, rfl, _, rfl, _, _, _, rfl, kd_int z.1, _, rfl, ?_⟩
    rw [belowV_in ⟨t0, t1⟩]
    refine iteF ?_
    refine ⟨_, rfl, _, _, _, _, _, rfl, .ty "tuple", .base (.tup h2), kit_ty (by decide +kernel : kitB "tuple" "tuple" = some true), _, rfl, ?_⟩
    refine iteF ?_
    refine ⟨_, rfl, _, _, rfl, .inr (SqT.of h2), _, rfl, rfl, _, rfl, ?_⟩
    have e : (!decide (V.int ((z.2.map V.int).length : Int) = V.int p)) = false := by
      rw [List.length_map, hl, decide_eq_true rfl]; rfl
    rw [e]
    refine iteF ?_
    refine ⟨_, rfl, g, rfl, ⟨_, SqT.of h2⟩, fun Dl hD => ?_⟩
    refine lcT (fs := (List.replicate z.2.length true).map V.bl) (SqT.of h2) hD (by simp) (by rw [List.length_map]; exact small1000 (by omega)) ?_ ?_ (fun x => rfl)
    · intro j x y H' Qk hx hy s1 kk
      obtain ⟨d, hd, rfl⟩ : ∃ d, d ∈ z.2 ∧ x = V.int d := by
        rw [List.getElem?_map] at hx
        cases e : z.2[j]? with
        | none => rw [e] at hx; cases hx
        | some u => rw [e] at hx; exact ⟨u, List.mem_of_getElem? e, (Option.some.inj hx).symm⟩
      have ey : y = V.bl true := by
        rw [List.getElem?_map, List.getElem?_replicate] at hy
        split at hy
        · exact (Option.some.inj hy).symm
        · cases hy
      subst ey
      refine ⟨_, rfl, _, rfl, _, _, _, rfl, kd_int d, ?_⟩
      rw [belowV_in (hg d hd)]
      exact kk _ (fun _ _ e => e)
    · intro H' s1 hDl
      refine ⟨Dl, _, rfl, SqL.of hDl, ?_⟩
      rw [all_rep]
      exact k H' s1
theorem scFirst : FnScope ["prime", "states", "at", "state"] ["prime", "states"] (defScope sFirst) := ⟨rfl, rfl, rfl, by decide +kernel, rfl, by decide +kernel, by decide +kernel⟩
theorem nmFirst : nmB ["prime", "states", "at", "state"] [("prime", 0), ("states", 1), ("at", 2), ("state", 3)] ["isinstance", "list", "tuple", "len", "enumerate", "Turner", "_is_state"] (defScope sFirst) = true := by decide +kernel
theorem ok_first {f : Addr} {fd : FuncData} (F : Fun K "_first_wrong" "_first_wrong" sFirst f fd) (B : Bn mg) (cv : Cv K mg C mc u) (D : Df P w K mg base 3 "_is_state" ["prime", "value", "many"] spIsSt) : FnOk P w K mg base CX0 4 f fd ["prime", "states"] spFirst := by
  refine F.ok scFirst (fun vs H Q E h => ?_) (fun cdv A outer s H vs Q E hr h => ?_)
  · obtain ⟨p, a, xs, M, rfl, _⟩ := h
    rfl
  · obtain ⟨p, a, xs, M, rfl, p7, ha, hM, hO, m0, m1, k⟩ := h
    obtain ⟨b1, b2, b3, b4, b5, b6, b7, b8, b9, b10, b11⟩ := B
    have g1 := cv.mgC
    refine' ex_mk ?d ?_
    case d =>
      have nm := nm_of (CX := CX0) (P := P) (w := w) (K := K) (mg := mg) (base := base) (outer := outer) (H := H) (E := E) nmFirst hr
      walk_at "pss"
    have hx : xs.length = M.length := hM.1
    refine ⟨_, rfl, by show 2 ≤ sizeLine; decide, fun q hq => ?_⟩
    have s0 : Same H (upd H q (.tup [.ty "list", .ty "tuple"])) := same_new hq
    refine ⟨_, q, _, _, _, _, rfl, upd_same, .cons (.ty "list") (.cons (.ty "tuple") .nil), .base (.lst (s0 _ _ ha)), kitAny_cons (kit_ty (by decide +kernel : kitB "list" "list" = some true)) (fun z => nomatch z) (fun _ => rfl), _, rfl, ?_⟩
    refine iteF ?_
    refine ⟨_, rfl, _, _, rfl, .inl (SqL.of (s0 _ _ ha)), rfl, _, rfl, ?_⟩
    have e : decide (V.int (xs.length : Int) = V.int 0) = false := decide_eq_false fun z => by
      injection z with z; omega
    rw [e]
    refine iteF ?_
    refine ⟨_, rfl, _, _, _, _, rfl, cv.rd, cv.most, _, rfl, a, xs, rfl, SqL.of (s0 _ _ ha), fun r hr' => ?_⟩
    rw [show cutV xs none (some 240) = xs from cut_all (n := 240) (by omega)]
    have s1 : Same H (upd (upd H q (.tup [.ty "list", .ty "tuple"])) r (.lst xs)) := same_add s0 hr'
    refine ⟨r, xs, rfl, SqL.of upd_same, ?_⟩
    refine for_enum (K := K) (a := r) (xs := xs) (fun i σ H' => ∃ v1 v2, σ = [some (.int p), some (.ref a), v1, v2] ∧ Same H H' ∧ H' r = some (.lst xs)) ⟨none, none, rfl, s1, upd_same⟩ (fun i σ H' ⟨_, _, _, _, e⟩ => SqL.of e) ?_ ?_
    · rintro i x T σ H' hxi ⟨v1, v2, rfl, s2, hr2⟩ hT
      have hi : i < M.length := by rw [← hx]; exact (List.getElem?_eq_some_iff.mp hxi).1
      have hMi : M[i]? = some M[i] := List.getElem?_eq_getElem hi
      have hmem : M[i] ∈ M := List.getElem_mem hi
      have s3 : Same H (upd H' T (.tup [.int (i : Nat), x])) := same_add s2 hT
      refine ⟨T, _, rfl, SqT.of upd_same, rfl, _, _, rfl, _, _, rfl, rfl, ?_⟩
      refine ⟨_, rfl, _, rfl, _, rfl, _, _, rfl, .inl (SqL.of (s3 _ _ ha)), ?_⟩
      refine ⟨p, _, x, M[i], rfl, (hM.2 i x _ hxi hMi).same s3, (hO.turn _ hmem).1, (hO.turn _ hmem).2, hO.many _ hmem, p7, ?_, fun H2 s4 => ⟨_, rfl, ?_⟩⟩
      · rw [hx]; exact hO.goal _ hmem
      · refine iteF ?_
        exact ⟨_, _, rfl, Same.trans s3 s4, s4 _ _ (by rw [upd_ne (ne_of_none hr2 hT)]; exact hr2)⟩
    · rintro σ H' ⟨v1, v2, rfl, s2, hr2⟩
      refine ⟨_, rfl, _, _, rfl, .inl (SqL.of (s2 _ _ ha)), _, _, _, _, rfl, cv.rd, cv.most, _, _, rfl, rfl, _, rfl, ?_⟩
      have c : ¬ (240 : Int) < (xs.length : Int) := by omega
      rw [decide_eq_false c]
      exact iteF (k H' s2)
end

abbrev sInit : Stmt := inClass (top 66) 1
theorem nPS : ¬ ("_prime" : Str) = "_states" := by decide +kernel
theorem nPT : ¬ ("_prime" : Str) = "_start" := by decide +kernel
theorem nST : ¬ ("_states" : Str) = "_start" := by decide +kernel
def tf (p : Int) (t : Addr) (st : Int) : List (Str × V) := putF "_start" (.int st) (putF "_states" (.ref t) (putF "_prime" (.int p) []))
theorem tf_p (p : Int) (t : Addr) (st : Int) : (tf p t st).lookup ("_prime" : Str) = some (.int p) := by
  unfold tf
  rw [lookup_putF, if_neg nPT, lookup_putF, if_neg nPS, lookup_putF, if_pos rfl]
theorem tf_s (p : Int) (t : Addr) (st : Int) : (tf p t st).lookup ("_states" : Str) = some (.ref t) := by
  unfold tf
  rw [lookup_putF, if_neg nST, lookup_putF, if_pos rfl]
theorem tf_t (p : Int) (t : Addr) (st : Int) : (tf p t st).lookup ("_start" : Str) = some (.int st) := by
  unfold tf
  rw [lookup_putF, if_pos rfl]
theorem tf_no (p : Int) (t : Addr) (st : Int) {m : Str} (h1 : ¬ m = "_prime") (h2 : ¬ m = "_states") (h3 : ¬ m = "_start") : (tf p t st).lookup m = none := by
  unfold tf
  rw [lookup_putF, if_neg h3, lookup_putF, if_neg h2, lookup_putF, if_neg h1]
  rfl
/-- the class's facts -/
structure Tc (K : PySem.W.Frag) (C : Addr) : Prop where
  cl : Cls K C
  nP : NoAttr K C "_prime"
  nS : NoAttr K C "_states"
  nT : NoAttr K C "_start"
/-- a turner stands at x -/
def TurAt (C : Addr) (H : Hp) (x : Addr) (p : Int) (M : Mach) (st : Int) : Prop := ∃ dx t xs, H x = some (.ins C dx (tf p t st)) ∧ H t = some (.tup xs) ∧ StsAt H xs M
structure OkT (p : Int) (M : Mach) (st : Int) : Prop where
  pr : IsP p
  ok : OkM p (M.length : Int) M
  st0 : 0 ≤ st
  st1 : st < (M.length : Int)
  le : M.length ≤ 240
theorem TurAt.same {C : Addr} {H H' : Hp} {x : Addr} {p : Int} {M : Mach} {st : Int} (h : TurAt C H x p M st) (e : Same H H') : TurAt C H' x p M st := by
  obtain ⟨dx, t, xs, h1, h2, h3⟩ := h
  exact ⟨dx, t, xs, e _ _ h1, e _ _ h2, h3.same e⟩
theorem TurAt.keep {C : Addr} {H H' : Hp} {x b l : Addr} {p : Int} {M : Mach} {st : Int} (h : TurAt C H x p M st) (B : Bag H b l) (e : Keep b H H') : TurAt C H' x p M st := by
  obtain ⟨dx, t, xs, h1, h2, h3⟩ := h
  exact ⟨dx, t, xs, e _ _ (B.insA h1) h1, e _ _ (B.tup h2) h2, h3.keep B e⟩
def spInit (C : Addr) : Sp := fun vs H Q _ => ∃ (x dx : Addr) (p : Int) (a : Addr) (xs : List V) (M : Mach) (st : Int), vs = [.ref x, .int p, .ref a, .int st] ∧ H x = some (.ins C dx []) ∧ H a = some (.lst xs) ∧ StsAt H xs M ∧ OkT p M st ∧
  ∀ H' t, (∀ c o, c ≠ x → H c = some o → H' c = some o) → H' t = some (.tup xs) → H' x = some (.ins C dx (tf p t st)) → Q .non H'
section
variable {P : Program} {w : World} {K : PySem.W.Frag} {mg : Str → Option Value} {base : Heap} {aP : Addr} {tD : Tok} {C : Addr} {mc u : Value}
theorem scInit : FnScope ["self", "prime", "states", "start", "wrong"] ["self", "prime", "states", "start"] (defScope sInit) := ⟨rfl, rfl, rfl, by decide +kernel, rfl, by decide +kernel, by decide +kernel⟩
theorem nmInit : nmB ["self", "prime", "states", "start", "wrong"] [("self", 0), ("prime", 1), ("states", 2), ("start", 3), ("wrong", 4)] ["check_prime", "_first_wrong", "is_below", "len", "tuple"] (defScope sInit) = true := by decide +kernel
theorem ok_init {f : Addr} {fd : FuncData} (F : FunD K "__init__" "Turner.__init__" (defArgs sInit) (defBody sInit) (defScope sInit) [] [("start", .int 0)] f fd) (B : Bn mg) (T : Tc K C) (D1 : Df P w K mg base 2 "check_prime" ["prime"] spChP) (D2 : Df P w K mg base 2 "is_below" ["value", "bound"] (spBel K))
    (D3 : Df P w K mg base 4 "_first_wrong" ["prime", "states"] spFirst) : FnOk P w K mg base CX0 5 f fd ["self", "prime", "states", "start"] (spInit C) := by
  refine funD_ok F scInit (fun vs H Q E h => ?_) (fun cdv A outer s H vs Q E hr h => ?_)
  · obtain ⟨x, dx, p, a, xs, M, st, rfl, _⟩ := h
    rfl
  · obtain ⟨x, dx, p, a, xs, M, st, rfl, hx, ha, hM, hO, k⟩ := h
    obtain ⟨b1, b2, b3, b4, b5, b6, b7, b8, b9, b10, b11⟩ := B
    refine' ex_mk ?d ?_
    case d =>
      have nm := nm_of (CX := CX0) (P := P) (w := w) (K := K) (mg := mg) (base := base) (outer := outer) (H := H) (E := E) nmInit hr
      walk_at "pss"
    have hl : xs.length = M.length := hM.1
    have h0 := hO.st0
    have h1 := hO.st1
    refine ⟨_, rfl, p, rfl, hO.pr, ?_⟩
    refine ⟨_, rfl, _, rfl, p, a, xs, M, rfl, hO.pr.two.2, ha, hM, hO.ok, by omega, hO.le, fun H1 s1 => ?_⟩
    refine ⟨_, rfl, rfl, _, rfl, ?_⟩
    refine iteF ?_
    refine ⟨_, rfl, _, rfl, _, _, rfl, .inl (SqL.of (s1 _ _ ha)), _, _, _, rfl, kd_int st, _, rfl, ?_⟩
    rw [belowV_in ⟨h0, by omega⟩]
    refine iteF ?_
    refine ⟨_, rfl, _, rfl, x, C, dx, [], rfl, s1 _ _ hx, T.cl, T.nP, by show 0 < 1000; decide, ?_⟩
    have nax : a ≠ x := ne_of ha hx (by intro q; cases q)
    refine ⟨_, rfl, a, xs, rfl, .inl ⟨SqL.of (by rw [upd_ne nax]; exact s1 _ _ ha), fun t ht => ?_⟩⟩
    have ntx : x ≠ t := ne_of_none upd_same ht
    refine ⟨_, rfl, x, C, dx, _, rfl, by rw [upd_ne ntx]; exact upd_same, T.cl, T.nS, by show 1 < 1000; decide, ?_⟩
    refine ⟨_, rfl, _, rfl, x, C, dx, _, rfl, upd_same, T.cl, T.nT, ?_, ?_⟩
    · refine Nat.lt_of_le_of_lt (m := 2) ?_ (by decide)
      show (putF "_states" (.ref t) [("_prime", .int p)]).length ≤ 2
      unfold putF
      rw [if_neg nPS]
      exact Nat.le_refl 2
    · refine k _ t (fun c o n e => ?_) ?_ ?_
      · rw [upd_ne n, upd_ne n, upd_ne (ne_of_none (show upd H1 x _ c = some o by rw [upd_ne n]; exact s1 _ _ e) ht), upd_ne n]
        exact s1 _ _ e
      · rw [upd_ne ntx.symm, upd_ne ntx.symm, upd_same]
      · exact upd_same
end

/-- C(e, ..), the start by its default -/
structure Kd0 (P : Program) (w : World) (K : PySem.W.Frag) (mg : Str → Option Value) (base : Heap) (k : Nat) (C : Addr) (ps : List Str) (sp : Sp) : Prop where
  ex : ∃ f fd ds, Mk K C f ∧ Vals [V.int 0] ds ∧ Binds K fd ps ds ∧ FnOk P w K mg base CX0 k f fd ps sp
abbrev sFew : Stmt := top 81
def fewM (p : Int) : Int := if p = 2 then 8 else if p = 3 then 5 else 3
def spFew : Sp := fun vs H Q _ => ∃ (p : Int), vs = [.int p] ∧ IsP p ∧ ∀ H', Same H H' → Q (.int (fewM p)) H'
section
variable {P : Program} {w : World} {K : PySem.W.Frag} {mg : Str → Option Value} {base : Heap} {aP : Addr} {tD : Tok} {C : Addr} {mc u : Value}
theorem scFew : FnScope ["_law_p"] ["_law_p"] (defScope sFew) := ⟨rfl, rfl, rfl, by decide +kernel, rfl, by decide +kernel, by decide +kernel⟩
theorem nmFew : nmB ["_law_p"] [("_law_p", 0)] [] (defScope sFew) = true := by decide +kernel
theorem ok_few {f : Addr} {fd : FuncData} (F : Fun K "_law_few" "_law_few" sFew f fd) : FnOk P w K mg base CX0 1 f fd ["_law_p"] spFew := by
  refine F.ok scFew (fun vs H Q E h => ?_) (fun cdv A outer s H vs Q E hr h => ?_)
  · obtain ⟨p, rfl, _⟩ := h
    rfl
  · obtain ⟨p, rfl, hP, k⟩ := h
    refine' ex_mk ?d ?_
    case d =>
      have nm := nm_of (CX := CX0) (P := P) (w := w) (K := K) (mg := mg) (base := base) (outer := outer) (H := H) (E := E) nmFew hr
      have hu := nm.room.un
      refine' pss_one (ps_ret (pe_dget (by omega) (pe_disp (pps_cons pe_int pe_int (pps_cons pe_int pe_int (pps_cons pe_int pe_int (pps_cons pe_int pe_int pps_nil)))) rfl rfl (by decide) (by decide)) ?i (fun _ _ => rfl)))
      case i => walk_at "pe"
    intro d hd
    refine ⟨upd_same, [(.inl 2, .int 8), (.inl 3, .int 5), (.inl 5, .int 3), (.inl 7, .int 3)], rfl, by decide, ?_⟩
    have s1 : Same H (upd (upd H d (.dK [])) d (.dK (mergeK [] [(.inl 2, .int 8), (.inl 3, .int 5), (.inl 5, .int 3), (.inl 7, .int 3)]))) := same_put (same_new hd) hd
    have g := DGet.k (k := (.inl p : Key)) (upd_same (a := d) (o := HO.dK (mergeK [] [(.inl 2, .int 8), (.inl 3, .int 5), (.inl 5, .int 3), (.inl 7, .int 3)])) (H := upd H d (.dK [])))
    have e : valV (mergeK [] [(.inl 2, V.int 8), (.inl 3, .int 5), (.inl 5, .int 3), (.inl 7, .int 3)]) (.inl p : Key) = some (.int (fewM p)) := by
      rcases hP with rfl | rfl | rfl | rfl <;> rfl
    rw [e] at g
    exact ⟨_, rfl, d, _, rfl, g, k _ s1⟩
end

abbrev sCC : Stmt := top 27
def spCC : Sp := fun vs H Q _ => ∃ (v lo hi : Int), vs = [.int v, .int lo, .int hi] ∧ lo ≤ v ∧ v ≤ hi ∧ Q .non H
section
variable {P : Program} {w : World} {K : PySem.W.Frag} {mg : Str → Option Value} {base : Heap} {aP : Addr} {tD : Tok} {C : Addr} {mc u : Value}
theorem scCC : FnScope ["value", "least", "most"] ["value", "least", "most"] (defScope sCC) := ⟨rfl, rfl, rfl, by decide +kernel, rfl, by decide +kernel, by decide +kernel⟩
theorem nmCC : nmB ["value", "least", "most"] [("value", 0), ("least", 1), ("most", 2)] ["is_number"] (defScope sCC) = true := by decide +kernel
theorem ok_cc {f : Addr} {fd : FuncData} (F : Fun K "check_count" "check_count" sCC f fd) (D : Df P w K mg base 1 "is_number" ["value"] (spNum K)) : FnOk P w K mg base CX0 2 f fd ["value", "least", "most"] spCC := by
  refine F.ok scCC (fun vs H Q E h => ?_) (fun cdv A outer s H vs Q E hr h => ?_)
  · obtain ⟨v, lo, hi, rfl, _⟩ := h
    rfl
  · obtain ⟨v, lo, hi, rfl, h1, h2, k⟩ := h
    refine' ex_mk ?d ?_
    case d =>
      have nm := nm_of (CX := CX0) (P := P) (w := w) (K := K) (mg := mg) (base := base) (outer := outer) (H := H) (E := E) nmCC hr
      walk_at "pss"
    refine ⟨_, rfl, _, _, rfl, kd_int v, _, rfl, ?_⟩
    refine iteF ?_
    refine ⟨_, rfl, _, rfl, _, _, rfl, rfl, _, rfl, ?_⟩
    rw [decide_eq_true h1]
    refine iteT ?_
    refine ⟨_, rfl, _, _, rfl, rfl, _, rfl, ?_⟩
    rw [decide_eq_true h2]
    exact iteF k
end

abbrev sMade : Stmt := top 75
/-- the law's own machine: a tuple of the prime, the list of its states, the start -/
def MAt (H : Hp) (t : Addr) (p : Int) (M : Mach) (st : Int) : Prop := ∃ r xs, H t = some (.tup [.int p, .ref r, .int st]) ∧ H r = some (.lst xs) ∧ StsAt H xs M
theorem MAt.same {H H' : Hp} {t : Addr} {p : Int} {M : Mach} {st : Int} (h : MAt H t p M st) (e : Same H H') : MAt H' t p M st := by
  obtain ⟨r, xs, h1, h2, h3⟩ := h
  exact ⟨r, xs, e _ _ h1, e _ _ h2, h3.same e⟩
def spMade (C : Addr) : Sp := fun vs H Q _ => ∃ (t : Addr) (p : Int) (M : Mach) (st : Int), vs = [.ref t] ∧ MAt H t p M st ∧ OkT p M st ∧ ∀ H' x, Same H H' → H x = none → TurAt C H' x p M st → Q (.ref x) H'
def gMk (vs zs : List V) : List V := vs ++ zs
section
variable {P : Program} {w : World} {K : PySem.W.Frag} {mg : Str → Option Value} {base : Heap} {aP : Addr} {tD : Tok} {C : Addr} {mc u : Value}
theorem scMade : FnScope ["_law_m"] ["_law_m"] (defScope sMade) := ⟨rfl, rfl, rfl, by decide +kernel, rfl, by decide +kernel, by decide +kernel⟩
theorem nmMade : nmB ["_law_m"] [("_law_m", 0)] ["Turner", "list"] (defScope sMade) = true := by decide +kernel
theorem ok_made {f : Addr} {fd : FuncData} (F : Fun K "_law_made" "_law_made" sMade f fd) (B : Bn mg) (cv : Cv K mg C mc u) (D : Kf P w K mg base 5 C 2 ["self", "prime", "states", "start"] ["start"] gMk (spInit C)) : FnOk P w K mg base CX0 7 f fd ["_law_m"] (spMade C) := by
  refine F.ok scMade (fun vs H Q E h => ?_) (fun cdv A outer s H vs Q E hr h => ?_)
  · obtain ⟨t, p, M, st, rfl, _⟩ := h
    rfl
  · obtain ⟨t, p, M, st, rfl, ⟨r, xs, h1, h2, h3⟩, hO, k⟩ := h
    obtain ⟨b1, b2, b3, b4, b5, b6, b7, b8, b9, b10, b11⟩ := B
    refine' ex_mk ?d ?_
    case d =>
      have nm := nm_of (CX := CX0) (P := P) (w := w) (K := K) (mg := mg) (base := base) (outer := outer) (H := H) (E := E) nmMade hr
      refine' pss_one (ps_ret (n_mk nm cv.mgC D (by decide) ?g (pa_cons ?a1 (pa_cons (n_t (x := "list") nm (by walk_at "as") call_list_of PyProof.Rows.boot_list ?bg (pa_cons ?a2 pa_nil)) pa_nil)) (pk_cons ?a3 pk_nil)))
      case g => walk_at "mem"
      case bg => walk_at "mem"
      case a1 => walk_at "peT"
      case a2 => walk_at "peT"
      case a3 => walk_at "peT"
    refine ⟨_, rfl, t, _, 0, _, rfl, rfl, SqT.of h1, rfl, ?_⟩
    refine ⟨_, rfl, t, _, 1, _, rfl, rfl, SqT.of h1, rfl, r, xs, rfl, .inl (SqL.of h2), fun l hl => ?_⟩
    have s1 : Same H (upd H l (.lst xs)) := same_new hl
    refine ⟨_, rfl, t, _, 2, _, rfl, rfl, SqT.of (s1 _ _ h1), rfl, rfl, rfl, fun x dx nx ndx ne => ?_⟩
    have s2 : Same H (upd (upd (upd H l (.lst xs)) dx (.own x)) x (.ins C dx [])) := fun c o e => by
      rw [upd_ne (ne_of_none (s1 _ _ e) nx), upd_ne (ne_of_none (s1 _ _ e) ndx)]
      exact s1 _ _ e
    have hx0 : H x = none := Same.free s1 nx
    have hl2 : upd (upd (upd H l (.lst xs)) dx (.own x)) x (.ins C dx []) l = some (.lst xs) := by
      rw [upd_ne (ne_of_none upd_same nx), upd_ne (ne_of_none upd_same ndx), upd_same]
    refine ⟨x, dx, p, l, xs, M, st, rfl, upd_same, hl2, h3.same s2, hO, fun H' t' hk ht hx => ⟨rfl, ?_⟩⟩
    have s3 : Same H H' := fun c o e => hk c o (ne_of_none e hx0) (s2 _ _ e)
    exact k H' x s3 hx0 ⟨dx, t', xs, hx, ht, h3.same s3⟩
end

abbrev sLen : Stmt := inClass (top 66) 17
def spLen (C : Addr) : Sp := fun vs H Q _ => ∃ (x : Addr) (p : Int) (M : Mach) (st : Int), vs = [.ref x] ∧ TurAt C H x p M st ∧ Q (.int (M.length : Nat)) H
section
variable {P : Program} {w : World} {K : PySem.W.Frag} {mg : Str → Option Value} {base : Heap} {aP : Addr} {tD : Tok} {C : Addr} {mc u : Value}
theorem scLen : FnScope ["self"] ["self"] (defScope sLen) := ⟨rfl, rfl, rfl, by decide +kernel, rfl, by decide +kernel, by decide +kernel⟩
theorem nmLen : nmB ["self"] [("self", 0)] ["len"] (defScope sLen) = true := by decide +kernel
theorem ok_len {f : Addr} {fd : FuncData} (F : Fun K "__len__" "Turner.__len__" sLen f fd) (B : Bn mg) (T : Tc K C) : FnOk P w K mg base CX0 1 f fd ["self"] (spLen C) := by
  refine F.ok scLen (fun vs H Q E h => ?_) (fun cdv A outer s H vs Q E hr h => ?_)
  · obtain ⟨x, p, M, st, rfl, _⟩ := h
    rfl
  · obtain ⟨x, p, M, st, rfl, hT, k⟩ := h
    obtain ⟨b1, b2, b3, b4, b5, b6, b7, b8, b9, b10, b11⟩ := B
    refine' ex_mk ?d ?_
    case d =>
      have nm := nm_of (CX := CX0) (P := P) (w := w) (K := K) (mg := mg) (base := base) (outer := outer) (H := H) (E := E) nmLen hr
      walk_at "pss"
    obtain ⟨dx, t, xs, h1, h2, h3⟩ := hT
    refine ⟨_, rfl, x, C, dx, _, _, rfl, h1, T.cl, T.nS, tf_s _ _ _, t, xs, rfl, .inr (SqT.of h2), ?_⟩
    rw [h3.1]
    exact k
end

abbrev sStates : Stmt := inClass (top 66) 7
def spSts (C : Addr) : Sp := fun vs H Q _ => ∃ (x : Addr) (p : Int) (M : Mach) (st : Int), vs = [.ref x] ∧ TurAt C H x p M st ∧ ∀ H' r xs, Same H H' → H r = none → H' r = some (.lst xs) → StsAt H' xs M → Q (.ref r) H'
section
variable {P : Program} {w : World} {K : PySem.W.Frag} {mg : Str → Option Value} {base : Heap} {aP : Addr} {tD : Tok} {C : Addr} {mc u : Value}
theorem scSts : FnScope ["self"] ["self"] (defScope sStates) := ⟨rfl, rfl, rfl, by decide +kernel, rfl, by decide +kernel, by decide +kernel⟩
theorem nmSts : nmB ["self"] [("self", 0)] ["list"] (defScope sStates) = true := by decide +kernel
theorem ok_sts {f : Addr} {fd : FuncData} (F : Fun K "states" "Turner.states" sStates f fd) (B : Bn mg) (T : Tc K C) : FnOk P w K mg base CX0 1 f fd ["self"] (spSts C) := by
  refine F.ok scSts (fun vs H Q E h => ?_) (fun cdv A outer s H vs Q E hr h => ?_)
  · obtain ⟨x, p, M, st, rfl, _⟩ := h
    rfl
  · obtain ⟨x, p, M, st, rfl, hT, k⟩ := h
    obtain ⟨b1, b2, b3, b4, b5, b6, b7, b8, b9, b10, b11⟩ := B
    refine' ex_mk ?d ?_
    case d =>
      have nm := nm_of (CX := CX0) (P := P) (w := w) (K := K) (mg := mg) (base := base) (outer := outer) (H := H) (E := E) nmSts hr
      walk_at "pss"
    obtain ⟨dx, t, xs, h1, h2, h3⟩ := hT
    refine ⟨_, rfl, x, C, dx, _, _, rfl, h1, T.cl, T.nS, tf_s _ _ _, t, xs, rfl, .inr (SqT.of h2), fun l hl => ?_⟩
    exact k _ l xs (same_new hl) hl upd_same (h3.same (same_new hl))
end

theorem StsAt.get {H : Hp} {xs : List V} {M : Mach} (h : StsAt H xs M) {s : Int} (s0 : 0 ≤ s) (s1 : s < (M.length : Int)) : ∃ a g, atI xs s = some (.ref a) ∧ H a = some (.tup [.int (turnM M s), .ref g]) ∧ H g = some (.tup ((M.getD s.toNat (0, [])).2.map V.int)) := by
  have hs : s.toNat < M.length := by omega
  have hx : s.toNat < xs.length := by rw [h.1]; exact hs
  have e1 : xs[s.toNat]? = some xs[s.toNat] := List.getElem?_eq_getElem hx
  have e2 : M[s.toNat]? = some M[s.toNat] := List.getElem?_eq_getElem hs
  obtain ⟨a, g, ev, h1, h2⟩ := h.2 _ _ _ e1 e2
  have eM : M.getD s.toNat (0, []) = M[s.toNat] := by rw [List.getD_eq_getElem?_getD, e2]; rfl
  refine ⟨a, g, at_of (j := s.toNat) (by omega) (by rw [e1, ev]), ?_, ?_⟩
  · unfold turnM; rw [eM]; exact h1
  · rw [eM]; exact h2
theorem at_ints {l : List Int} {d : Int} (d0 : 0 ≤ d) (d1 : d < (l.length : Int)) : atI (l.map V.int) d = some (.int (l.getD d.toNat 0)) := by
  have hd : d.toNat < l.length := by omega
  refine at_of (j := d.toNat) (by omega) ?_
  rw [List.getElem?_map, List.getD_eq_getElem?_getD, List.getElem?_eq_getElem hd]; rfl
theorem many_at {p n : Int} {M : Mach} (h : OkM p n M) {s : Int} (s0 : 0 ≤ s) (s1 : s < (M.length : Int)) : (((M.getD s.toNat (0, [])).2).length : Int) = p := by
  have hs : s.toNat < M.length := by omega
  rw [List.getD_eq_getElem?_getD, List.getElem?_eq_getElem hs]
  exact h.many _ (List.getElem_mem hs)
theorem figs_take {p : Int} {ds : List Int} (h : Figs p ds) (i : Nat) : Figs p (ds.take i) := fun d hd => h d (List.mem_of_mem_take hd)
theorem take_one {ds : List Int} {i : Nat} {d : Int} (h : ds[i]? = some d) : ds.take (i + 1) = ds.take i ++ [d] := by
  rw [List.take_add_one, h]; rfl
theorem int_of {ds : List Int} {i : Nat} {x : V} (h : (ds.map V.int)[i]? = some x) : ∃ d, ds[i]? = some d ∧ x = V.int d := by
  rw [List.getElem?_map] at h
  cases e : ds[i]? with
  | none => rw [e] at h; cases h
  | some u => rw [e] at h; exact ⟨u, rfl, (Option.some.inj h).symm⟩
section
variable {P : Program} {w : World} {K : PySem.W.Frag} {mg : Str → Option Value} {base : Heap} {aP : Addr} {tD : Tok} {C : Addr} {mc u : Value}
end

abbrev sAre : Stmt := top 33
abbrev sChC : Stmt := top 34
abbrev sFC : Stmt := top 35
/-- counts as they stand, a list or a tuple -/
def CsAt (H : Hp) (a : Addr) (cs : List Int) : Prop := H a = some (.lst (cs.map V.int)) ∨ H a = some (.tup (cs.map V.int))
theorem CsAt.same {H H' : Hp} {a : Addr} {cs : List Int} (h : CsAt H a cs) (e : Same H H') : CsAt H' a cs := by
  rcases h with h | h
  · exact .inl (e _ _ h)
  · exact .inr (e _ _ h)
def spAre (C : Addr) : Sp := fun vs H Q _ => ∃ (x a : Addr) (p : Int) (M : Mach) (st : Int) (cs : List Int), vs = [.ref x, .ref a] ∧ TurAt C H x p M st ∧ OkT p M st ∧ CsAt H a cs ∧ CsOk p M cs ∧ ∀ H', Same H H' → Q (.bl true) H'
def spChC (C : Addr) : Sp := fun vs H Q _ => ∃ (x a : Addr) (p : Int) (M : Mach) (st : Int) (cs : List Int), vs = [.ref x, .ref a] ∧ TurAt C H x p M st ∧ OkT p M st ∧ CsAt H a cs ∧ CsOk p M cs ∧ ∀ H', Same H H' → Q .non H'
def spFC (C : Addr) : Sp := fun vs H Q _ => ∃ (x : Addr) (p : Int) (M : Mach) (st : Int), vs = [.ref x] ∧ TurAt C H x p M st ∧ OkT p M st ∧ ∀ H' r, Same H H' → H r = none → H' r = some (.lst ((firstC M st).map V.int)) → Q (.ref r) H'
theorem TurAt.ins {C : Addr} {H : Hp} {x : Addr} {p : Int} {M : Mach} {st : Int} (h : TurAt C H x p M st) : ∃ dx fs, H x = some (.ins C dx fs) := by
  obtain ⟨dx, t, xs, h1, _⟩ := h
  exact ⟨dx, _, h1⟩
/-- x.prime, x.start, len(x) of a turner, read -/
theorem prm_q {K : PySem.W.Frag} {C : Addr} {H : Hp} {x : Addr} {p : Int} {M : Mach} {st : Int} {Q : VK} (h : TurAt C H x p M st) (q : Q (.int p) H) : ∃ a dx fs, V.ref x = .ref a ∧ H a = some (.ins C dx fs) ∧ getSp C "_prime" ([.ref a] ++ []) H Q E0 := by
  obtain ⟨dx, t, xs, h1, _⟩ := h
  exact ⟨x, dx, _, rfl, h1, x, dx, _, _, rfl, h1, tf_p _ _ _, q⟩
theorem stt_q {K : PySem.W.Frag} {C : Addr} {H : Hp} {x : Addr} {p : Int} {M : Mach} {st : Int} {Q : VK} (h : TurAt C H x p M st) (q : Q (.int st) H) : ∃ a dx fs, V.ref x = .ref a ∧ H a = some (.ins C dx fs) ∧ getSp C "_start" ([.ref a] ++ []) H Q E0 := by
  obtain ⟨dx, t, xs, h1, _⟩ := h
  exact ⟨x, dx, _, rfl, h1, x, dx, _, _, rfl, h1, tf_t _ _ _, q⟩
theorem len_q {C : Addr} {H : Hp} {x : Addr} {p : Int} {M : Mach} {st : Int} {Q : VK} (h : TurAt C H x p M st) (hO : OkT p M st) (q : Q (.int (M.length : Nat)) H) : rLenO C (spLen C) [.ref x] H Q := by
  have hl := hO.le
  obtain ⟨dx, fs, h1⟩ := h.ins
  exact ⟨x, dx, fs, rfl, h1, x, p, M, st, rfl, h, _, rfl, by omega, by omega, q⟩
theorem ints_at {ds : List Int} {j : Nat} {x : V} (h : (ds.map V.int)[j]? = some x) : ∃ d, ds[j]? = some d ∧ x = V.int d := by
  rw [List.getElem?_map] at h
  cases e : ds[j]? with
  | none => rw [e] at h; cases h
  | some u => rw [e] at h; exact ⟨u, rfl, (Option.some.inj h).symm⟩
theorem rep_at {n j : Nat} {b : Bool} {x : V} (h : ((List.replicate n b).map V.bl)[j]? = some x) : x = V.bl b := by
  rw [List.getElem?_map, List.getElem?_replicate] at h
  split at h
  · exact (Option.some.inj h).symm
  · cases h
section
variable {P : Program} {w : World} {K : PySem.W.Frag} {mg : Str → Option Value} {base : Heap} {aP : Addr} {tD : Tok} {C : Addr} {mc u : Value}
theorem scAre : FnScope ["turner", "value", "count"] ["turner", "value"] (defScope sAre) := ⟨rfl, rfl, rfl, by decide +kernel, rfl, by decide +kernel, by decide +kernel⟩
theorem nmAre : nmB ["turner", "value", "count"] [("turner", 0), ("value", 1)] ["isinstance", "list", "tuple", "len", "all"] (defScope sAre) = true := by decide +kernel
theorem ok_are {f : Addr} {fd : FuncData} (F : Fun K "are_counts" "are_counts" sAre f fd) (B : Bn mg) (T : Tc K C) (D : Df P w K mg base 2 "is_below" ["value", "bound"] (spBel K)) (E4 : Pf P w K mg base 1 C "prime" ["self"] (getSp C "_prime")) (O2 : Ol P w K mg base 1 C ["self"] (spLen C)) : FnOk P w K mg base CX0 3 f fd ["turner", "value"] (spAre C) := by
  refine F.ok scAre (fun vs H Q E h => ?_) (fun cdv A outer s H vs Q E hr h => ?_)
  · obtain ⟨x, a, p, M, st, cs, rfl, _⟩ := h
    rfl
  · obtain ⟨x, a, p, M, st, cs, rfl, hT, hO, ha, hc, k⟩ := h
    have hl := hO.le
    have hcl := T.cl
    obtain ⟨b1, b2, b3, b4, b5, b6, b7, b8, b9, b10, b11⟩ := B
    refine' ex_mk ?d ?_
    case d =>
      have nm := nm_of (CX := CX0) (P := P) (w := w) (K := K) (mg := mg) (base := base) (outer := outer) (H := H) (E := E) nmAre hr
      refine' pss_cons (ps_if (PW.pt (pw_or ?c1 (pw_or1 (pt_cmpR op_ne (n_len nm (by walk_at "as") ?g1 (pa_cons ?c2 pa_nil)) (n_lenO nm (by walk_at "as") ?g2 O2 (by decide) (pa_cons ?c3 pa_nil)) (nomark _))))) (pss_one (ps_ret pe_bl)) pss_nil)
        (pss_one (ps_ret (n_b (x := "all") nm (by walk_at "as") (cr_all nm.calm) PyProof.Rows.boot_all ?bg (pa_cons ?lc pa_nil))))
      case c1 => walk_at "pt"
      case g1 => walk_at "mem"
      case g2 => walk_at "mem"
      case c2 => walk_at "pe"
      case c3 => walk_at "pe"
      case bg => walk_at "mem"
      case lc =>
        refine' n_lc (own := [("count", 2)]) (g := gName 2) (NS' := [("turner", 0), ("count", 2)]) (WS' := [("count", 2)]) (G' := ["is_below"]) (N := ["turner", "value", "count"]) (scD := defScope sAre) nm rfl rfl (by decide +kernel) (by decide +kernel) (pi_or (pi_list ?li) (pi_tup ?li2)) (fun X' nm2 => ?lg) (fun X' nm2 => n_d nm2 D (by decide) ?e0 (pa_cons ?e1 (pa_cons (n_p nm2 hcl E4 (by decide) ?e2) pa_nil)))
        case li => walk_at "pe"
        case li2 => walk_at "pe"
        case lg => walk_at "pg"
        case e0 => walk_at "mem"
        case e1 => walk_at "pe"
        case e2 => walk_at "pe"
    have hll : (cs.map V.int).length = cs.length := List.length_map _
    refine ⟨_, rfl, by show 2 ≤ sizeLine; decide, fun q hq => ?_⟩
    have s0 : Same H (upd H q (.tup [.ty "list", .ty "tuple"])) := same_new hq
    generalize eH0 : upd H q (.tup [.ty "list", .ty "tuple"]) = H0 at *
    have hq0 : H0 q = some (.tup [.ty "list", .ty "tuple"]) := by rw [← eH0]; exact upd_same
    have hT0 := hT.same s0
    have lenne : decide (V.int ((cs.map V.int).length : Int) = V.int (M.length : Nat)) = true := decide_eq_true (by rw [hll, hc.len])
    rcases ha.same s0 with ha | ha
    · refine ⟨_, q, _, _, _, _, rfl, hq0, .cons (.ty "list") (.cons (.ty "tuple") .nil), ty_l (SqL.of ha), kitAny_cons (kit_ty (by decide +kernel : kitB "list" "list" = some true)) (fun z => nomatch z) (fun _ => rfl), _, rfl, ?_⟩
      refine iteF ?_
      refine ⟨_, rfl, a, _, rfl, .inl (SqL.of ha), _, rfl, ?_⟩
      dsimp only [tNil]
      refine len_q hT0 hO ?_
      refine ⟨rfl, _, rfl, ?_⟩
      rw [lenne]
      refine iteF ?_
      refine .inl ⟨_, rfl, a, rfl, ⟨_, SqL.of ha⟩, fun Dl hD => ?_⟩
      refine lc_seq (fs := (List.replicate cs.length true).map V.bl) (sj_L fun H1 s1 => SqL.of (s1 _ _ ha)) hD (by simp) (small1000 (by rw [hll, hc.len]; omega)) ?_ ?_ gm_name
      · intro j x' z H1 Qk hx hz s1 kk
        obtain ⟨d, hd, rfl⟩ := ints_at hx
        obtain rfl := rep_at hz
        refine ⟨rfl, _, rfl, _, rfl, prm_q (K := K) (hT0.same s1) ⟨_, _, _, rfl, kd_int d, ?_⟩⟩
        rw [belowV_in (hc.val d (List.mem_of_getElem? hd))]
        exact kk _ (fun _ _ e => e)
      · intro H1 s1 hDl
        refine ⟨Dl, _, rfl, SqL.of hDl, ?_⟩
        rw [all_rep]
        exact k _ (Same.trans s0 s1)
    · refine ⟨_, q, _, _, _, _, rfl, hq0, .cons (.ty "list") (.cons (.ty "tuple") .nil), ty_t (SqT.of ha), (kitAny_cons (kit_ty (by decide +kernel : kitB "tuple" "list" = some false)) (fun _ => kitAny_cons (kit_ty (by decide +kernel : kitB "tuple" "tuple" = some true)) (fun z => nomatch z) (fun _ => rfl)) (fun z => nomatch z)), _, rfl, ?_⟩
      refine iteF ?_
      refine ⟨_, rfl, a, _, rfl, .inr (SqT.of ha), _, rfl, ?_⟩
      dsimp only [tNil]
      refine len_q hT0 hO ?_
      refine ⟨rfl, _, rfl, ?_⟩
      rw [lenne]
      refine iteF ?_
      refine .inr ⟨_, rfl, a, rfl, ⟨_, SqT.of ha⟩, fun Dl hD => ?_⟩
      refine lc_seq (fs := (List.replicate cs.length true).map V.bl) (sj_T fun H1 s1 => SqT.of (s1 _ _ ha)) hD (by simp) (small1000 (by rw [hll, hc.len]; omega)) ?_ ?_ gm_name
      · intro j x' z H1 Qk hx hz s1 kk
        obtain ⟨d, hd, rfl⟩ := ints_at hx
        obtain rfl := rep_at hz
        refine ⟨rfl, _, rfl, _, rfl, prm_q (K := K) (hT0.same s1) ⟨_, _, _, rfl, kd_int d, ?_⟩⟩
        rw [belowV_in (hc.val d (List.mem_of_getElem? hd))]
        exact kk _ (fun _ _ e => e)
      · intro H1 s1 hDl
        refine ⟨Dl, _, rfl, SqL.of hDl, ?_⟩
        rw [all_rep]
        exact k _ (Same.trans s0 s1)
theorem scChC : FnScope ["turner", "counts"] ["turner", "counts"] (defScope sChC) := ⟨rfl, rfl, rfl, by decide +kernel, rfl, by decide +kernel, by decide +kernel⟩
theorem nmChC : nmB ["turner", "counts"] [("turner", 0), ("counts", 1)] ["are_counts"] (defScope sChC) = true := by decide +kernel
theorem ok_chc {f : Addr} {fd : FuncData} (F : Fun K "_check_counts" "_check_counts" sChC f fd) (D : Df P w K mg base 3 "are_counts" ["turner", "value"] (spAre C)) : FnOk P w K mg base CX0 4 f fd ["turner", "counts"] (spChC C) := by
  refine F.ok scChC (fun vs H Q E h => ?_) (fun cdv A outer s H vs Q E hr h => ?_)
  · obtain ⟨x, a, p, M, st, cs, rfl, _⟩ := h
    rfl
  · obtain ⟨x, a, p, M, st, cs, rfl, hT, hO, ha, hc, k⟩ := h
    refine' ex_mk ?d ?_
    case d =>
      have nm := nm_of (CX := CX0) (P := P) (w := w) (K := K) (mg := mg) (base := base) (outer := outer) (H := H) (E := E) nmChC hr
      walk_at "pss"
    refine ⟨_, rfl, _, rfl, x, a, p, M, st, cs, rfl, hT, hO, ha, hc, fun H1 s1 => ⟨_, rfl, ?_⟩⟩
    refine iteF ?_
    exact k H1 s1
theorem scFC : FnScope ["turner", "state"] ["turner"] (defScope sFC) := ⟨rfl, rfl, rfl, by decide +kernel, rfl, by decide +kernel, by decide +kernel⟩
theorem nmFC : nmB ["turner", "state"] [("turner", 0)] ["range", "len"] (defScope sFC) = true := by decide +kernel
theorem ok_fc {f : Addr} {fd : FuncData} (F : Fun K "first_counts" "first_counts" sFC f fd) (B : Bn mg) (T : Tc K C) (E5 : Pf P w K mg base 1 C "start" ["self"] (getSp C "_start")) (O2 : Ol P w K mg base 1 C ["self"] (spLen C)) : FnOk P w K mg base CX0 3 f fd ["turner"] (spFC C) := by
  refine F.ok scFC (fun vs H Q E h => ?_) (fun cdv A outer s H vs Q E hr h => ?_)
  · obtain ⟨x, p, M, st, rfl, _⟩ := h
    rfl
  · obtain ⟨x, p, M, st, rfl, hT, hO, k⟩ := h
    have hl := hO.le
    have hcl := T.cl
    obtain ⟨b1, b2, b3, b4, b5, b6, b7, b8, b9, b10, b11⟩ := B
    refine' ex_mk ?d ?_
    case d =>
      have nm := nm_of (CX := CX0) (P := P) (w := w) (K := K) (mg := mg) (base := base) (outer := outer) (H := H) (E := E) nmFC hr
      refine' pss_one (ps_ret (n_lc (own := [("state", 1)]) (g := gName 1) (NS' := [("turner", 0), ("state", 1)]) (WS' := [("state", 1)]) (G' := []) (N := ["turner", "state"]) (scD := defScope sFC) nm rfl rfl (by decide +kernel) (by decide +kernel) (n_rng nm (by walk_at "as") ?rg (pa_cons (n_lenO nm (by walk_at "as") ?lg0 O2 (by decide) (pa_cons ?l1 pa_nil)) pa_nil)) (fun X' nm2 => ?lg) (fun X' nm2 => pe_ifExp (pt_cmpR op_eq ?e1 (n_p nm2 hcl E5 (by decide) ?e2) (nomark _)) pe_int pe_int)))
      case rg => walk_at "mem"
      case lg0 => walk_at "mem"
      case l1 => walk_at "pe"
      case lg => walk_at "pg"
      case e1 => walk_at "pe"
      case e2 => walk_at "pe"
    refine ⟨_, rfl, ?_⟩
    dsimp only [tNil]
    refine len_q hT hO ?_
    refine ⟨_, rfl, by omega, by omega, fun Dl hD => ?_⟩
    refine lc_range (lo := 0) (n := ((M.length : Nat) : Int).toNat) (fun i H' => Same H H' ∧ H' Dl = some (.lst (((List.range i).map fun (i : Nat) => if (i : Int) = st then (1 : Int) else 0).map V.int))) ⟨same_new hD, upd_same⟩ ?_ ?_
    · rintro i H' hi ⟨s1, hDl⟩
      refine ⟨rfl, yes_ ?_⟩
      refine ⟨_, rfl, _, rfl, stt_q (K := K) (hT.same s1) ⟨rfl, _, rfl, ?_⟩⟩
      have e0 : (0 : Int) + (i : Int) = (i : Int) := by omega
      rw [e0]
      have fin : ∀ z : Int, z = (if (i : Int) = st then (1 : Int) else 0) → ∃ acc, H' Dl = some (.lst acc) ∧ acc.length < sizeLine ∧ Same H (upd H' Dl (.lst (acc ++ [V.int z]))) ∧ upd H' Dl (.lst (acc ++ [V.int z])) Dl = some (.lst (((List.range (i + 1)).map fun (i : Nat) => if (i : Int) = st then (1 : Int) else 0).map V.int)) := fun z ez => by
        refine ⟨_, hDl, ?_, same_put s1 hD, ?_⟩
        · rw [List.length_map, List.length_map, List.length_range]; exact small1000 (by omega)
        · rw [upd_same, List.range_succ, List.map_append, List.map_append, ez]; rfl
      by_cases c : (i : Int) = st
      · rw [decide_eq_true (by rw [c])]
        refine iteT ?_
        exact fin 1 (by rw [if_pos c])
      · rw [decide_eq_false (fun z => c (by injection z))]
        refine iteF ?_
        exact fin 0 (by rw [if_neg c])
    · rintro H' ⟨s1, hDl⟩
      rw [Int.toNat_natCast] at hDl
      exact k H' Dl s1 hD hDl
end

abbrev sSame : Stmt := top 71
section
variable {P : Program} {w : World} {K : PySem.W.Frag} {mg : Str → Option Value} {base : Heap}
theorem kitLT {T : String} (h : T = "NoneType" ∨ T = "bool" ∨ T = "int" ∨ T = "str") : PySem.W.kitAny K (.type T) [.type "list", .type "tuple"] = some false := by
  have e1 : kitB T "list" = some false := by rcases h with h | h | h | h <;> subst h <;> decide +kernel
  have e2 : kitB T "tuple" = some false := by rcases h with h | h | h | h <;> subst h <;> decide +kernel
  exact kitAny_cons (kit_ty e1) (fun _ => kitAny_cons (kit_ty e2) (fun _ => kitAny_nil) (fun z => nomatch z)) (fun z => nomatch z)
theorem kitL : PySem.W.kitAny K (.type "list") [.type "list", .type "tuple"] = some true := kitAny_cons (kit_ty (by decide +kernel : kitB "list" "list" = some true)) (fun z => nomatch z) (fun _ => rfl)
theorem kitT : PySem.W.kitAny K (.type "tuple") [.type "list", .type "tuple"] = some true :=
  kitAny_cons (kit_ty (by decide +kernel : kitB "tuple" "list" = some false)) (fun _ => kitAny_cons (kit_ty (by decide +kernel : kitB "tuple" "tuple" = some true)) (fun z => nomatch z) (fun _ => rfl)) (fun z => nomatch z)
theorem kit_str {T : String} (h : T = "NoneType" ∨ T = "bool" ∨ T = "int" ∨ T = "str") : kitB T "str" = some (decide (T = "str")) := by
  rcases h with h | h | h | h <;> subst h <;> decide +kernel
theorem scSame : FnScope ["_law_found", "_law_due", "_law_a", "_law_b"] ["_law_found", "_law_due"] (defScope sSame) := ⟨rfl, rfl, rfl, by decide +kernel, rfl, by decide +kernel, by decide +kernel⟩
theorem nmSame : nmB ["_law_found", "_law_due", "_law_a", "_law_b"] [("_law_found", 0), ("_law_due", 1)] ["isinstance", "list", "tuple", "bool", "int", "str", "len", "all", "zip"] (defScope sSame) = true := by decide +kernel
theorem bne_self (b : Bool) : (!decide (V.bl b = V.bl b)) = false := by rw [decide_eq_true rfl]; rfl
theorem ok_same {n : Nat} {f : Addr} {fd : FuncData} (F : Fun K "_law_same" "_law_same" sSame f fd) (B : Bn mg) (bs : mg "str" = none) (D : Df P w K mg base n "_law_same" ["_law_found", "_law_due"] (spS K n)) : FnOk P w K mg base CX0 (n + 1) f fd ["_law_found", "_law_due"] (spS K (n + 1)) := by
  refine F.ok scSame (fun vs H Q E h => ?_) (fun cdv A outer s H vs Q E hr h => ?_)
  · obtain ⟨x, y, rfl, _⟩ := h
    rfl
  · obtain ⟨x, y, rfl, he, k⟩ := h
    obtain ⟨b1, b2, b3, b4, b5, b6, b7, b8, b9, b10, b11⟩ := B
    refine' ex_mk ?d ?_
    case d =>
      have nm := nm_of (CX := CX0) (P := P) (w := w) (K := K) (mg := mg) (base := base) (outer := outer) (H := H) (E := E) nmSame hr
      refine' pss_cons (ps_if ?c1 (pss_cons ?s1 (pss_one (ps_ret (pe_and ?l1 (pe_one (n_b (x := "all") nm (by walk_at "as") (cr_all nm.calm) PyProof.Rows.boot_all ?bg (pa_cons ?lc pa_nil))))))) pss_nil) ?rest
      case c1 => walk_at "pt"
      case s1 => walk_at "ps"
      case l1 => walk_at "pe"
      case bg => walk_at "mem"
      case rest => walk_at "pss"
      case lc =>
        refine' n_lc (own := [("_law_a", 2), ("_law_b", 3)]) (g := gTup K 2 (gCons (gName 2) (gCons (gName 3) gNil))) (NS' := [("_law_a", 2), ("_law_b", 3)]) (WS' := [("_law_a", 2), ("_law_b", 3)]) (G' := ["_law_same"]) (N := ["_law_found", "_law_due", "_law_a", "_law_b"]) (scD := defScope sSame) nm rfl rfl (by decide +kernel) (by decide +kernel) (n_zipA nm (by walk_at "as") ?zg ?za) (fun X' nm2 => ?lg) (fun X' nm2 => ?le)
        case zg => walk_at "mem"
        case za => walk_at "pa"
        case lg => walk_at "pg"
        case le =>
          refine' n_d nm2 D (Nat.le_refl _) ?ug ?ua
          case ug => walk_at "mem"
          case ua => walk_at "pa"
    refine ⟨_, rfl, by show 2 ≤ sizeLine; decide, fun q hq => ?_⟩
    have s0 : Same H (upd H q (.tup [.ty "list", .ty "tuple"])) := same_new hq
    have he' := he.same s0
    have cls : Paired ClsV [V.ty "list", V.ty "tuple"] [Value.type "list", Value.type "tuple"] := .cons (.ty "list") (.cons (.ty "tuple") .nil)
    cases he' with
    | flat hf =>
      obtain ⟨T, ty, hT⟩ := ty_flat (K := K) (H := upd H q (.tup [.ty "list", .ty "tuple"])) hf
      have h6 : T = "NoneType" ∨ T = "bool" ∨ T = "int" ∨ T = "str" ∨ T = "list" ∨ T = "tuple" := by
        rcases hT with h | h | h | h
        · exact .inl h
        · exact .inr (.inl h)
        · exact .inr (.inr (.inl h))
        · exact .inr (.inr (.inr (.inl h)))
      refine ⟨_, q, _, _, _, _, rfl, upd_same, cls, ty, kitLT hT, _, rfl, ?_⟩
      refine iteF ?_
      refine ⟨_, rfl, rfl, _, rfl, ?_⟩
      by_cases c : x = .non
      · subst c
        refine ⟨_, rfl, rfl, _, rfl, _, rfl, rfl, ?_⟩
        exact k _ s0
      · rw [decide_eq_false c]
        refine iteF ?_
        refine ⟨_, rfl, rfl, _, rfl, ?_⟩
        rw [decide_eq_false c]
        refine iteF ?_
        refine ⟨_, rfl, _, _, _, _, _, rfl, .ty "bool", ty, kit_ty (kit_bool h6), _, rfl, _, _, _, _, _, rfl, .ty "bool", ty, kit_ty (kit_bool h6), rfl, _, rfl, ?_⟩
        rw [bne_self]
        refine iteF ?_
        refine ⟨_, rfl, _, _, _, _, _, rfl, .ty "int", ty, kit_ty (kit_int h6), _, rfl, _, _, _, _, _, rfl, .ty "int", ty, kit_ty (kit_int h6), rfl, _, rfl, ?_⟩
        rw [bne_self]
        refine iteF ?_
        refine ⟨_, rfl, _, _, _, _, _, rfl, .ty "str", ty, kit_ty (kit_str hT), _, rfl, _, _, _, _, _, rfl, .ty "str", ty, kit_ty (kit_str hT), rfl, _, rfl, ?_⟩
        rw [decide_eq_true (rfl : V.bl (decide (T = "str")) = V.bl (decide (T = "str")))]
        refine iteT ?_
        refine ⟨_, rfl, _, rfl, scal_flat hf c, ?_⟩
        rw [decide_eq_true (rfl : x = x)]
        exact k _ s0
    | @lst m a b xs ys ha hb hl hz hall =>
      refine ⟨_, q, _, _, _, _, rfl, upd_same, cls, ty_l hb, kitL, _, rfl, ?_⟩
      refine iteT ?_
      refine ⟨_, rfl, _, _, _, _, _, rfl, .ty "list", ty_l ha, kit_ty (by decide +kernel : kitB "list" "list" = some true), _, rfl, _, _, _, _, _, rfl, .ty "list", ty_l hb, kit_ty (by decide +kernel : kitB "list" "list" = some true), rfl, _, rfl, ?_⟩
      refine iteF ?_
      refine ⟨_, rfl, _, _, _, _, _, rfl, .ty "tuple", ty_l ha, kit_ty (by decide +kernel : kitB "list" "tuple" = some false), _, rfl, _, _, _, _, _, rfl, .ty "tuple", ty_l hb, kit_ty (by decide +kernel : kitB "list" "tuple" = some false), rfl, _, rfl, ?_⟩
      refine iteF ?_
      refine ⟨_, rfl, a, xs, rfl, .inl ha, _, rfl, b, ys, rfl, .inl hb, rfl, _, rfl, ?_⟩
      rw [decide_eq_true (by rw [hl] : V.int (xs.length : Int) = V.int (ys.length : Int))]
      refine iteT ?_
      refine ⟨_, rfl, _, rfl, a, b, xs, ys, rfl, .inl ⟨ha, hb, fun Dl hD => ?_⟩⟩
      refine lcZg (xs := xs) (ys := ys) (fs := (List.replicate xs.length true).map V.bl) hl hD (by simp) (small1000 hz) (fun H2 j u v s1 h1 h2 => ⟨xs, ys, u, v, Same.seq s1 ha, Same.seq s1 hb, h1, h2⟩) (fun H2 s1 => ⟨xs, ys, Same.seq s1 ha, Same.seq s1 hb, .inl (Nat.le_refl _)⟩)
        (fun H2 j v H3 s1 hy => by obtain ⟨T, u, z, e1, e2, e3, e4, e5⟩ := hy; exact ⟨T, u, z, e1, e2, e3, e4 xs (Same.seq s1 ha), e5 ys (Same.seq s1 hb)⟩) ?_ ?_ (fun x y => rfl)
      · intro j u v z H2 Qk h1 h2 h3 s1 kk
        have ez : z = V.bl true := by
          rw [List.getElem?_map, List.getElem?_replicate] at h3
          split at h3
          · exact (Option.some.inj h3).symm
          · cases h3
        subst ez
        exact ⟨_, rfl, _, rfl, u, v, rfl, (hall j u v h1 h2).same s1, kk⟩
      · intro H2 s1 hDl
        refine ⟨Dl, _, rfl, SqL.of hDl, ?_⟩
        rw [all_rep]
        exact k H2 (Same.trans s0 s1)
    | @tup m a b xs ys ha hb hl hz hall =>
      refine ⟨_, q, _, _, _, _, rfl, upd_same, cls, ty_t hb, kitT, _, rfl, ?_⟩
      refine iteT ?_
      refine ⟨_, rfl, _, _, _, _, _, rfl, .ty "list", ty_t ha, kit_ty (by decide +kernel : kitB "tuple" "list" = some false), _, rfl, _, _, _, _, _, rfl, .ty "list", ty_t hb, kit_ty (by decide +kernel : kitB "tuple" "list" = some false), rfl, _, rfl, ?_⟩
      refine iteF ?_
      refine ⟨_, rfl, _, _, _, _, _, rfl, .ty "tuple", ty_t ha, kit_ty (by decide +kernel : kitB "tuple" "tuple" = some true), _, rfl, _, _, _, _, _, rfl, .ty "tuple", ty_t hb, kit_ty (by decide +kernel : kitB "tuple" "tuple" = some true), rfl, _, rfl, ?_⟩
      refine iteF ?_
      refine ⟨_, rfl, a, xs, rfl, .inr ha, _, rfl, b, ys, rfl, .inr hb, rfl, _, rfl, ?_⟩
      rw [decide_eq_true (by rw [hl] : V.int (xs.length : Int) = V.int (ys.length : Int))]
      refine iteT ?_
      refine ⟨_, rfl, _, rfl, a, b, xs, ys, rfl, .inr ⟨ha, hb, fun Dl hD => ?_⟩⟩
      refine lcZg (xs := xs) (ys := ys) (fs := (List.replicate xs.length true).map V.bl) hl hD (by simp) (small1000 hz) (fun H2 j u v s1 h1 h2 => ⟨xs, ys, u, v, sqT_same s1 ha, sqT_same s1 hb, h1, h2⟩) (fun H2 s1 => ⟨xs, ys, sqT_same s1 ha, sqT_same s1 hb, .inl (Nat.le_refl _)⟩)
        (fun H2 j v H3 s1 hy => by obtain ⟨T, u, z, e1, e2, e3, e4, e5⟩ := hy; exact ⟨T, u, z, e1, e2, e3, e4 xs (sqT_same s1 ha), e5 ys (sqT_same s1 hb)⟩) ?_ ?_ (fun x y => rfl)
      · intro j u v z H2 Qk h1 h2 h3 s1 kk
        have ez : z = V.bl true := by
          rw [List.getElem?_map, List.getElem?_replicate] at h3
          split at h3
          · exact (Option.some.inj h3).symm
          · cases h3
        subst ez
        exact ⟨_, rfl, _, rfl, u, v, rfl, (hall j u v h1 h2).same s1, kk⟩
      · intro H2 s1 hDl
        refine ⟨Dl, _, rfl, SqL.of hDl, ?_⟩
        rw [all_rep]
        exact k H2 (Same.trans s0 s1)
end

abbrev sLUnd : Stmt := top 82
def spLUnd : Sp := fun vs H Q _ => ∃ (t : Addr) (p : Int) (M : Mach) (st : Int), vs = [.ref t] ∧ MAt H t p M st ∧ OkT p M st ∧ ∀ H' y, Same H H' → MAt H' y p (undM p M) st → Q (.ref y) H'
theorem undM_take (p : Int) (M : Mach) (i : Nat) (h : i < M.length) : undM p (M.take (i + 1)) = undM p (M.take i) ++ [undS p M[i]] := by
  unfold undM
  rw [List.take_add_one, List.getElem?_eq_getElem h, List.map_append]; rfl
theorem flat_rep0 (n : Nat) : (List.replicate n [V.int 0]).flatten = (List.replicate n (0 : Int)).map V.int := by
  rw [flat_rep, List.map_replicate]
theorem ixN_in {n : Nat} {i : Int} (i0 : 0 ≤ i) (i1 : i < (n : Int)) : ixN n i = some i.toNat := by
  unfold ixN
  have h1 : ¬ i < 0 := by omega
  simp [h1, i0]
  try omega
section
variable {P : Program} {w : World} {K : PySem.W.Frag} {mg : Str → Option Value} {base : Heap} {aP : Addr} {tD : Tok} {C : Addr} {mc u : Value}
theorem scLUnd : FnScope ["_law_m", "_law_p", "_law_rows", "_law_turn", "_law_goals", "_law_late", "_law_x"] ["_law_m"] (defScope sLUnd) := ⟨rfl, rfl, rfl, by decide +kernel, rfl, by decide +kernel, by decide +kernel⟩
theorem nmLUnd : nmB ["_law_m", "_law_p", "_law_rows", "_law_turn", "_law_goals", "_law_late", "_law_x"] [("_law_m", 0), ("_law_p", 1), ("_law_rows", 2), ("_law_turn", 3), ("_law_goals", 4), ("_law_late", 5), ("_law_x", 6)] ["range", "int", "tuple"] (defScope sLUnd) = true := by decide +kernel
theorem ok_lund {f : Addr} {fd : FuncData} (F : Fun K "_law_undone" "_law_undone" sLUnd f fd) (B : Bn mg) : FnOk P w K mg base CX0 1 f fd ["_law_m"] spLUnd := by
  refine F.ok scLUnd (fun vs H Q E h => ?_) (fun cdv A outer s H vs Q E hr h => ?_)
  · obtain ⟨t, p, M, st, rfl, _⟩ := h
    rfl
  · obtain ⟨t, p, M, st, rfl, ⟨m, xs, h1, h2, h3⟩, hO, k⟩ := h
    have p2 := hO.pr.two
    have hle := hO.le
    obtain ⟨b1, b2, b3, b4, b5, b6, b7, b8, b9, b10, b11⟩ := B
    refine' ex_mk ?d ?_
    case d =>
      have nm := nm_of (CX := CX0) (P := P) (w := w) (K := K) (mg := mg) (base := base) (outer := outer) (H := H) (E := E) nmLUnd hr
      refine' pss_cons (ps_par (i := 1) (j := 2) rfl nm.nd rfl rfl (by decide) rfl rfl (pa_cons ?e1 (pa_cons ?e2 pa_nil)) (by rfl))
        (pss_cons (n_for nm PassesOwn.never (pi_list ?li) ?lg (pss_cons (ps_asg (pe_op op_rep ?a1 ?a2) ?a3) (pss_cons (n_for nm PassesOwn.never ?ri ?rg (pss_one (ps_asg (n_ixT nm ?c1 ?c2 (fun _ _ => rfl)) ?c3))) (pss_one ?b3))))
          (pss_one (ps_ret (pe_tup (pa_cons ?r1 (pa_cons ?r2 (pa_cons ?r3 pa_nil)))))))
      case e1 => walk_at "peT"
      case e2 => walk_at "pe"
      case li => walk_at "peT"
      case lg => walk_at "pg"
      case a1 => walk_at "pe"
      case a2 => walk_at "pe"
      case a3 => walk_at "pg"
      case ri => walk_at "pi"
      case rg => walk_at "pg"
      case c1 => walk_at "pe"
      case c2 => walk_at "pe"
      case c3 => walk_at "pg"
      case b3 => walk_at "ps"
      case r1 => walk_at "pe"
      case r2 => walk_at "pe"
      case r3 => walk_at "peT"
    refine ⟨_, rfl, t, _, 0, _, rfl, rfl, SqT.of h1, rfl, ?_⟩
    refine ⟨by show 0 ≤ sizeLine; decide, fun r hr1 => ?_⟩
    have s1 : Same H (upd H r (.lst [])) := same_new hr1
    refine ⟨_, _, rfl, ?_⟩
    refine ⟨_, rfl, t, _, 1, _, rfl, rfl, SqT.of (s1 _ _ h1), rfl, m, rfl, ⟨_, SqL.of (s1 _ _ h2)⟩, ?_⟩
    refine for_list (K := K) (a := m) (xs := xs) (fun i σ H' => ∃ v3 v4 v5 v6 ys, σ = [some (.ref t), some (.int p), some (.ref r), v3, v4, v5, v6] ∧ Same H H' ∧ H' r = some (.lst ys) ∧ StsAt H' ys (undM p (M.take i)))
      ⟨none, none, none, none, [], rfl, s1, upd_same, ⟨rfl, fun i x z e => by simp at e⟩⟩ (fun i σ H' _ ⟨_, _, _, _, _, _, e, _⟩ => SqL.of (e _ _ h2)) ?_ ?_
    · rintro i y σ H' hy ⟨v3, v4, v5, v6, ys, rfl, s2, hr2, hM⟩
      have hi : i < M.length := by rw [← h3.1]; exact (List.getElem?_eq_some_iff.mp hy).1
      have hz : M[i]? = some M[i] := List.getElem?_eq_getElem hi
      obtain ⟨a, g, rfl, e1, e2⟩ := (h3.same s2).2 i y _ hy hz
      have hmany := hO.ok.many _ (List.getElem_mem hi)
      refine ⟨a, _, rfl, SqT.of e1, rfl, _, _, rfl, _, _, rfl, rfl, ?_⟩
      refine ⟨by show 1 ≤ sizeLine; decide, fun q0 hq0 => ?_⟩
      refine ⟨_, rfl, q0, p, [.int 0], rfl, rfl, upd_same, by omega, by omega, Nat.le_of_lt (small1000 (by show 1 * p.toNat ≤ 1000; omega)), fun l hl => ?_⟩
      have sl : Same H' (upd (upd H' q0 (.lst [.int 0])) l (.lst (List.replicate p.toNat [V.int 0]).flatten)) := same_add (same_new hq0) hl
      have hl0 : H' l = none := Same.free (same_new hq0) hl
      refine ⟨_, rfl, _, rfl, by omega, by omega, for_range (lo := 0) (n := p.toNat) (fun j σ H2 => ∃ v6, σ = [some (.ref t), some (.int p), some (.ref r), some (.int M[i].1), some (.ref g), some (.ref l), v6] ∧ Same H' H2 ∧ H2 l = some (.lst ((lateM p M[i].1 M[i].2 j).map V.int)))
        ⟨v6, rfl, sl, by rw [upd_same, flat_rep0]; rfl⟩ ?_ ?_⟩
      · rintro j σ H2 hj ⟨w6, rfl, s3, hl3⟩
        have ez : (0 : Int) + (j : Int) = (j : Int) := by omega
        rw [ez]
        have ea := at_ints (l := M[i].2) (d := (j : Int)) (by omega) (by omega)
        rw [Int.toNat_natCast] at ea
        have md := md_in hO.pr ((j : Int) + M[i].1)
        refine ⟨_, rfl, _, rfl, g, _, _, _, rfl, rfl, SqT.of (s3 _ _ e2), ea, ?_⟩
        refine ⟨_, rfl, _, rfl, _, rfl, _, _, rfl, rfl, .inl ⟨_, rfl, ?_⟩⟩
        refine ⟨_, rfl, _, _, rfl, rfl, (by show (0 : Int) < p; omega), ?_⟩
        refine ⟨l, _, _, (((j : Int) + M[i].1) % p).toNat, rfl, rfl, hl3, ixN_in md.1 (by rw [List.length_map, lateM_len]; omega), ?_⟩
        refine ⟨_, rfl, same_put s3 hl0, ?_⟩
        rw [upd_same, lateM, List.map_set]
      · rintro σ H2 ⟨w6, rfl, s3, hl3⟩
        have hr3 : H2 r = some (.lst ys) := s3 _ _ hr2
        refine ⟨_, rfl, .inl ⟨rfl, _, SqL.of hr3⟩, ?_⟩
        refine ⟨_, rfl, _, rfl, _, _, rfl, rfl, .inl ⟨_, rfl, ?_⟩⟩
        refine ⟨_, rfl, _, _, rfl, rfl, (by show (0 : Int) < p; omega), ?_⟩
        refine ⟨_, rfl, l, _, rfl, .inl ⟨SqL.of hl3, fun u hu => ?_⟩⟩
        refine ⟨by show 2 ≤ sizeLine; decide, fun q hq => ?_⟩
        have s4 : Same H2 (upd (upd H2 u (.tup ((lateM p M[i].1 M[i].2 p.toNat).map V.int))) q (.tup [.int ((p - M[i].1) % p), .ref u])) := same_add (same_new hu) hq
        refine ⟨r, _, _, rfl, rfl, s4 _ _ hr3, ?_, ?_⟩
        · rw [hM.1, undM_len, List.length_take]
          exact small1000 (by omega)
        · have hS : StAt (upd (upd H2 u (.tup ((lateM p M[i].1 M[i].2 p.toNat).map V.int))) q (.tup [.int ((p - M[i].1) % p), .ref u])) (.ref q) (undS p M[i]) := by
            have hturn := hO.ok.turn _ (List.getElem_mem hi)
            refine ⟨q, u, rfl, ?_, ?_⟩
            · rw [upd_same, md_late hO.pr hturn.1 hturn.2]; rfl
            · rw [upd_ne (ne_of_none upd_same hq), upd_same, lateM_end hO.pr]
          refine ⟨_, _, _, _, ys ++ [.ref q], rfl, same_put (Same.trans s2 (Same.trans s3 s4)) hr1, upd_same, ?_⟩
          rw [undM_take p M i hi]
          exact ((hM.same (Same.trans s3 s4)).snoc hS).lst (s4 _ _ hr3)
    · rintro σ H' ⟨v3, v4, v5, v6, ys, rfl, s2, hr2, hM⟩
      rw [h3.1, List.take_length] at hM
      refine ⟨_, rfl, _, rfl, _, rfl, t, _, 2, _, rfl, rfl, SqT.of (s2 _ _ h1), rfl, by show 3 ≤ sizeLine; decide, fun y hy => ?_⟩
      refine k _ y (same_add s2 hy) ⟨r, ys, upd_same, ?_, hM.same (same_new hy)⟩
      rw [upd_ne (ne_of_none hr2 hy)]; exact hr2
end

abbrev sWay : Stmt := top 76
abbrev sBeh : Stmt := top 77
def spWay : Sp := fun vs H Q _ => ∃ (t a : Addr) (p : Int) (M : Mach) (st : Int) (ds : List Int), vs = [.ref t, .ref a] ∧ MAt H t p M st ∧ OkT p M st ∧ H a = some (.tup (ds.map V.int)) ∧ Figs p ds ∧ ds.length ≤ 200 ∧
  ∀ H' r, Same H H' → H r = none → H' r = some (.lst ((wayM M st ds).map V.int)) → Q (.ref r) H'
def spBeh : Sp := fun vs H Q _ => ∃ (t a : Addr) (p : Int) (M : Mach) (st : Int) (ds : List Int), vs = [.ref t, .ref a] ∧ MAt H t p M st ∧ OkT p M st ∧ H a = some (.tup (ds.map V.int)) ∧ Figs p ds ∧ ds.length ≤ 200 ∧
  ∀ H' r, Same H H' → H r = none → H' r = some (.tup ((behM p M st ds).map V.int)) → Q (.ref r) H'
section
variable {P : Program} {w : World} {K : PySem.W.Frag} {mg : Str → Option Value} {base : Heap} {aP : Addr} {tD : Tok} {C : Addr} {mc u : Value}
theorem scWay : FnScope ["_law_m", "_law_row", "_law_found", "_law_here", "_law_x"] ["_law_m", "_law_row"] (defScope sWay) := ⟨rfl, rfl, rfl, by decide +kernel, rfl, by decide +kernel, by decide +kernel⟩
theorem nmWay : nmB ["_law_m", "_law_row", "_law_found", "_law_here", "_law_x"] [("_law_m", 0), ("_law_row", 1), ("_law_found", 2), ("_law_here", 3), ("_law_x", 4)] [] (defScope sWay) = true := by decide +kernel
theorem ok_way {f : Addr} {fd : FuncData} (F : Fun K "_law_way" "_law_way" sWay f fd) : FnOk P w K mg base CX0 1 f fd ["_law_m", "_law_row"] spWay := by
  refine F.ok scWay (fun vs H Q E h => ?_) (fun cdv A outer s H vs Q E hr h => ?_)
  · obtain ⟨t, a, p, M, st, ds, rfl, _⟩ := h
    rfl
  · obtain ⟨t, a, p, M, st, ds, rfl, ⟨m, xs, h1, h2, h3⟩, hO, ha, hF, hl, k⟩ := h
    refine' ex_mk ?d ?_
    case d =>
      have nm := nm_of (CX := CX0) (P := P) (w := w) (K := K) (mg := mg) (base := base) (outer := outer) (H := H) (E := E) nmWay hr
      refine' pss_cons (ps_par (i := 2) (j := 3) rfl nm.nd rfl rfl (by decide) rfl rfl (pa_cons ?e1 (pa_cons ?e2 pa_nil)) (by rfl)) (pss_cons (n_for nm PassesOwn.never (pi_tup ?li) ?lg (pss_cons ?b1 (pss_one (ps_asg (n_ixT nm (n_ixT nm (n_ixL nm ?q1 ?q2 (fun _ _ => rfl)) pe_int (fun _ _ => rfl)) ?q3 (fun _ _ => rfl)) ?b3)))) (pss_one ?s5))
      case e1 => walk_at "pe"
      case e2 => walk_at "peT"
      case li => walk_at "pe"
      case lg => walk_at "pg"
      case b1 => walk_at "ps"
      case q1 => walk_at "peT"
      case q2 => walk_at "pe"
      case q3 => walk_at "pe"
      case b3 => walk_at "pg"
      case s5 => walk_at "ps"
    refine ⟨by show 0 ≤ sizeLine; decide, fun r hr1 => ?_⟩
    have s2 : Same H (upd H r (.lst [])) := same_new hr1
    refine ⟨_, rfl, t, _, 2, _, rfl, rfl, SqT.of (s2 _ _ h1), rfl, _, _, rfl, ?_⟩
    refine ⟨_, rfl, a, rfl, ⟨_, SqT.of (s2 _ _ ha)⟩, ?_⟩
    refine for_tup (K := K) (a := a) (xs := ds.map V.int) (fun i σ H' => ∃ v, σ = [some (.ref t), some (.ref a), some (.ref r), some (.int (runM M st (ds.take i))), v] ∧ Same H H' ∧ H' r = some (.lst ((wayM M st (ds.take i)).map V.int)))
      ⟨none, rfl, s2, upd_same⟩ (fun i σ H' _ ⟨_, _, e, _⟩ => SqT.of (e _ _ ha)) ?_ ?_
    · rintro i y σ H' hy ⟨v, rfl, s3, hr2⟩
      obtain ⟨d, hd, rfl⟩ := int_of hy
      have q := runM_in hO.ok rfl (ds.take i) hO.st0 hO.st1 (figs_take hF i)
      have fd := hF d (List.mem_of_getElem? hd)
      obtain ⟨as, g, e1, e2, e3⟩ := (h3.same s3).get q.1 q.2
      refine ⟨_, rfl, .inl ⟨rfl, _, SqL.of hr2⟩, _, rfl, r, _, _, rfl, rfl, hr2, ?_, ?_⟩
      · rw [List.length_map, wayM_len, List.length_take]
        exact small1000 (by omega)
      · have s4 : Same H (upd H' r (.lst ((wayM M st (ds.take i)).map V.int ++ [.int (runM M st (ds.take i))]))) := same_put s3 hr1
        have nr : ∀ {c : Addr} {ys : List V}, H' c = some (.tup ys) → upd H' r (.lst ((wayM M st (ds.take i)).map V.int ++ [.int (runM M st (ds.take i))])) c = some (.tup ys) := fun {c ys} e => by
          rw [upd_ne (ne_of e hr2 (by intro z; cases z))]; exact e
        refine ⟨_, rfl, t, _, 1, _, rfl, rfl, SqT.of (s4 _ _ h1), rfl, _, rfl, m, xs, _, _, rfl, rfl, SqL.of (s4 _ _ h2), e1, ?_⟩
        refine ⟨as, _, 1, _, rfl, rfl, SqT.of (nr e2), rfl, _, rfl, g, _, d, _, rfl, rfl, SqT.of (nr e3), at_ints fd.1 (by rw [many_at hO.ok q.1 q.2]; exact fd.2), ?_⟩
        refine ⟨some (.int d), ?_, s4, ?_⟩
        · rw [take_one hd, runM_snoc]; rfl
        · rw [upd_same, take_one hd, wayM_snoc, List.map_append]; rfl
    · rintro σ H' ⟨v, rfl, s3, hr2⟩
      rw [List.length_map, List.take_length] at hr2
      exact ⟨_, rfl, k H' r s3 hr1 hr2⟩
theorem scBeh : FnScope ["_law_m", "_law_row", "_law_way_here", "_law_k"] ["_law_m", "_law_row"] (defScope sBeh) := ⟨rfl, rfl, rfl, by decide +kernel, rfl, by decide +kernel, by decide +kernel⟩
theorem nmBeh : nmB ["_law_m", "_law_row", "_law_way_here", "_law_k"] [("_law_m", 0), ("_law_row", 1), ("_law_way_here", 2)] ["_law_way", "tuple", "range", "len"] (defScope sBeh) = true := by decide +kernel
theorem ok_beh {f : Addr} {fd : FuncData} (F : Fun K "_law_behind" "_law_behind" sBeh f fd) (B : Bn mg) (D : Df P w K mg base 1 "_law_way" ["_law_m", "_law_row"] spWay) : FnOk P w K mg base CX0 2 f fd ["_law_m", "_law_row"] spBeh := by
  refine F.ok scBeh (fun vs H Q E h => ?_) (fun cdv A outer s H vs Q E hr h => ?_)
  · obtain ⟨t, a, p, M, st, ds, rfl, _⟩ := h
    rfl
  · obtain ⟨t, a, p, M, st, ds, rfl, hM, hO, ha, hF, hl, k⟩ := h
    obtain ⟨b1, b2, b3, b4, b5, b6, b7, b8, b9, b10, b11⟩ := B
    refine' ex_mk ?d ?_
    case d =>
      have nm := nm_of (CX := CX0) (P := P) (w := w) (K := K) (mg := mg) (base := base) (outer := outer) (H := H) (E := E) nmBeh hr
      refine' pss_cons ?s1 (pss_one (ps_ret (n_t (x := "tuple") nm (by walk_at "as") call_tuple_of PyProof.Rows.boot_tuple ?bg (pa_cons ?lc pa_nil))))
      case s1 => walk_at "ps"
      case bg => walk_at "mem"
      case lc =>
        refine' n_lc (own := [("_law_k", 3)]) (g := gName 3) (NS' := [("_law_m", 0), ("_law_row", 1), ("_law_way_here", 2), ("_law_k", 3)]) (WS' := [("_law_k", 3)]) (G' := ["int"]) (N := ["_law_m", "_law_row", "_law_way_here", "_law_k"]) (scD := defScope sBeh) nm rfl rfl (by decide +kernel) (by decide +kernel) ?li (fun X' nm2 => ?lg)
          (fun X' nm2 => pe_op op_mod (n_t (x := "int") nm2 (by walk_at "as") call_int1 PyProof.Rows.boot_int ?bi (pa_cons (pe_op op_add (n_ixT nm2 ?r1 ?r2 (fun _ _ => rfl)) (n_ixT nm2 (n_ixL nm2 ?r3 ?r4 (fun _ _ => rfl)) pe_int (fun _ _ => rfl))) pa_nil)) ?r5)
        case li => walk_at "pi"
        case lg => walk_at "pg"
        case bi => walk_at "mem"
        case r1 => walk_at "pe"
        case r2 => walk_at "pe"
        case r3 => walk_at "peT"
        case r4 => walk_at "pe"
        case r5 => walk_at "peT"
    have hM' := hM
    obtain ⟨m, xs, h1, h2, h3⟩ := hM
    refine ⟨_, rfl, _, rfl, t, a, p, M, st, ds, rfl, hM', hO, ha, hF, hl, fun H1 r s1 hr0 hr1 => ?_⟩
    refine ⟨_, rfl, a, _, rfl, .inr (SqT.of (s1 _ _ ha)), _, rfl, by omega, by rw [List.length_map]; omega, fun Dl hD => ?_⟩
    refine lcR (n := ((ds.map V.int).length : Int).toNat) (fs := (behM p M st ds).map V.int) hD (by simp [behM_len]) (by rw [List.length_map]; exact small1000 (by omega)) ?_ ?_ (fun x => rfl)
    · intro j z H' Qk hz s2 kk
      obtain ⟨b, hb, rfl⟩ := int_of hz
      have hj : j < ds.length := by
        have := (List.getElem?_eq_some_iff.mp hb).1
        rw [behM_len] at this
        exact this
      have hd : ds[j]? = some ds[j] := List.getElem?_eq_getElem hj
      have hj2 : j < (wayM M st ds).length := by rw [wayM_len]; exact hj
      have hw : (wayM M st ds)[j]? = some (wayM M st ds)[j] := List.getElem?_eq_getElem hj2
      have eb : b = (ds[j] + turnM M (wayM M st ds)[j]) % p := by
        unfold behM at hb
        rw [List.getElem?_zipWith, hd, hw] at hb
        exact (Option.some.inj hb).symm
      subst eb
      have qi := wayM_in hO.ok rfl ds hO.st0 hO.st1 hF _ (List.getElem_mem hj2)
      have s3 := Same.trans s1 s2
      obtain ⟨as, g, e1, e2, e3⟩ := (h3.same s3).get qi.1 qi.2
      have p2 := hO.pr.two
      have ez : (0 : Int) + (j : Int) = (j : Int) := by omega
      rw [ez]
      refine ⟨_, rfl, _, rfl, a, _, _, _, rfl, rfl, SqT.of (s3 _ _ ha), atI_nat (by rw [List.getElem?_map, hd]; rfl), ?_⟩
      refine ⟨_, rfl, t, _, 1, _, rfl, rfl, SqT.of (s3 _ _ h1), rfl, _, rfl, _, rfl, r, _, _, _, rfl, rfl, SqL.of (s2 _ _ hr1), atI_nat (by rw [List.getElem?_map, hw]; rfl), ?_⟩
      refine ⟨m, xs, _, _, rfl, rfl, SqL.of (s3 _ _ h2), e1, as, _, 0, _, rfl, rfl, SqT.of e2, rfl, _, _, rfl, rfl, .inl ⟨_, rfl, ?_⟩⟩
      refine ⟨_, rfl, t, _, 0, _, rfl, rfl, SqT.of (s3 _ _ h1), rfl, _, _, rfl, rfl, (by show (0 : Int) < p; omega), ?_⟩
      exact kk _ (fun _ _ e => e)
    · intro H2 s2 hDl
      refine ⟨Dl, _, rfl, .inl ⟨SqL.of hDl, fun q hq => ?_⟩⟩
      have s3 := Same.trans s1 s2
      exact k _ q (same_add s3 hq) (Same.free s3 hq) upd_same
end

abbrev sNC : Stmt := top 36
abbrev sTT : Stmt := top 37
def spNC (C : Addr) : Sp := fun vs H Q _ => ∃ (x a : Addr) (p : Int) (M : Mach) (st : Int) (cs : List Int), vs = [.ref x, .ref a] ∧ TurAt C H x p M st ∧ OkT p M st ∧ CsAt H a cs ∧ CsOk p M cs ∧ ∀ H' r, Same H H' → H r = none → H' r = some (.lst ((nextC p M cs).map V.int)) → Q (.ref r) H'
def spTT (C : Addr) : Sp := fun vs H Q _ => ∃ (x a : Addr) (p : Int) (M : Mach) (st : Int) (cs : List Int), vs = [.ref x, .ref a] ∧ TurAt C H x p M st ∧ OkT p M st ∧ CsAt H a cs ∧ CsOk p M cs ∧ ∀ H', Same H H' → Q (.int (totC p M cs)) H'
theorem no_sts (p : Int) (t : Addr) (st : Int) : (tf p t st).lookup ("states" : Str) = none := tf_no p t st (by decide +kernel) (by decide +kernel) (by decide +kernel)
theorem sts_at {H : Hp} {xs : List V} {M : Mach} {i : Nat} {y : V} (h : StsAt H xs M) (e : xs[i]? = some y) : i < M.length ∧ ∃ b g, y = .ref b ∧ H b = some (.tup [.int (M.getD i (0, [])).1, .ref g]) ∧ H g = some (.tup ((M.getD i (0, [])).2.map V.int)) ∧ M.getD i (0, []) ∈ M := by
  have hi : i < M.length := by rw [← h.1]; exact (List.getElem?_eq_some_iff.mp e).1
  have hm : M[i]? = some M[i] := List.getElem?_eq_getElem hi
  obtain ⟨b, g, rfl, h1, h2⟩ := h.2 i y _ e hm
  have eg : M.getD i (0, []) = M[i] := by rw [List.getD_eq_getElem?_getD, hm]; rfl
  rw [eg]
  exact ⟨hi, b, g, rfl, h1, h2, List.getElem_mem hi⟩
theorem cs_get {cs : List Int} {i : Nat} {d : Int} (h : cs[i]? = some d) : d = cs.getD i 0 := by rw [List.getD_eq_getElem?_getD, h]; rfl
section
variable {P : Program} {w : World} {K : PySem.W.Frag} {mg : Str → Option Value} {base : Heap} {aP : Addr} {tD : Tok} {C : Addr} {mc u : Value}
theorem scNC : FnScope ["turner", "counts", "sums", "count", "_", "targets", "target", "found"] ["turner", "counts"] (defScope sNC) := ⟨rfl, rfl, rfl, by decide +kernel, rfl, by decide +kernel, by decide +kernel⟩
theorem nmNC : nmB ["turner", "counts", "sums", "count", "_", "targets", "target", "found"] [("turner", 0), ("counts", 1), ("sums", 2), ("count", 3), ("_", 4), ("targets", 5), ("target", 6)] ["_check_counts", "len", "zip"] (defScope sNC) = true := by decide +kernel
theorem ok_nc {f : Addr} {fd : FuncData} (F : Fun K "next_counts" "next_counts" sNC f fd) (B : Bn mg) (T : Tc K C) (D : Df P w K mg base 4 "_check_counts" ["turner", "counts"] (spChC C)) (E2 : Mf P w K mg base 1 C "states" ["self"] (spSts C)) (E4 : Pf P w K mg base 1 C "prime" ["self"] (getSp C "_prime")) (O2 : Ol P w K mg base 1 C ["self"] (spLen C)) : FnOk P w K mg base CX0 5 f fd ["turner", "counts"] (spNC C) := by
  refine F.ok scNC (fun vs H Q E h => ?_) (fun cdv A outer s H vs Q E hr h => ?_)
  · obtain ⟨x, a, p, M, st, cs, rfl, _⟩ := h
    rfl
  · obtain ⟨x, a, p, M, st, cs, rfl, hT, hO, ha, hc, k⟩ := h
    have hl := hO.le
    have p2 := hO.pr.two
    have hcl := T.cl
    obtain ⟨b1, b2, b3, b4, b5, b6, b7, b8, b9, b10, b11⟩ := B
    refine' ex_mk ?d ?_
    case d =>
      have nm := nm_of (CX := CX0) (P := P) (w := w) (K := K) (mg := mg) (base := base) (outer := outer) (H := H) (E := E) nmNC hr
      refine' pss_cons ?s1 (pss_cons (ps_asg (pe_op op_rep (pe_lst (pa_cons pe_int pa_nil)) (n_lenO nm (by walk_at "as") ?g1 O2 (by decide) (pa_cons ?l1 pa_nil))) ?g2)
        (pss_cons (n_for nm PassesOwn.never (pi_or (n_zipA nm (by walk_at "as") ?z1 (pa_cons ?z2 (pa_cons ?z3 pa_nil))) (n_zip nm (by walk_at "as") ?z4 (pa_cons ?z5 (pa_cons ?z6 pa_nil)))) ?zg
          (pss_one (n_for nm PassesOwn.never (pi_tup ?t1) ?tg (pss_one (ps_augS ?a1 ?a2 (n_getN nm) ?a3 ip_add set_list)))))
        (pss_one (ps_ret ?lc))))
      case s1 => walk_at "ps"
      case g1 => walk_at "mem"
      case l1 => walk_at "pe"
      case g2 => walk_at "pg"
      case z1 => walk_at "mem"
      case z2 => walk_at "pe"
      case z3 => walk_at "pe"
      case z4 => walk_at "mem"
      case z5 => walk_at "pe"
      case z6 => walk_at "pe"
      case zg => walk_at "pg"
      case t1 => walk_at "pe"
      case tg => walk_at "pg"
      case a1 => walk_at "pe"
      case a2 => walk_at "pe"
      case a3 => walk_at "pe"
      case lc =>
        refine' n_lc (own := [("found", 7)]) (g := gName 7) (NS' := [("turner", 0), ("found", 7)]) (WS' := [("found", 7)]) (G' := []) (N := ["turner", "counts", "sums", "count", "_", "targets", "target", "found"]) (scD := defScope sNC) nm rfl rfl (by decide +kernel) (by decide +kernel) (pi_list ?li) (fun X' nm2 => ?lg) (fun X' nm2 => pe_op op_mod ?e1 (n_p nm2 hcl E4 (by decide) ?e2))
        case li => walk_at "pe"
        case lg => walk_at "pg"
        case e1 => walk_at "pe"
        case e2 => walk_at "pe"
    refine ⟨_, rfl, _, rfl, x, a, p, M, st, cs, rfl, hT, hO, ha, hc, fun H1 s1 => ?_⟩
    refine ⟨by show 1 ≤ sizeLine; decide, fun l hl0 => ?_⟩
    have s1l : Same H1 (upd H1 l (.lst [.int 0])) := same_new hl0
    refine ⟨_, rfl, ?_⟩
    dsimp only [tNil]
    refine len_q (hT.same (Same.trans s1 s1l)) hO ?_
    refine ⟨l, _, _, rfl, rfl, upd_same, by omega, by omega, ?_, fun q hq0 => ?_⟩
    · show 1 * ((M.length : Nat) : Int).toNat ≤ sizeLine
      exact Nat.le_of_lt (small1000 (by omega))
    rw [Int.toNat_natCast, rep_int]
    have sq : Same H1 (upd (upd H1 l (.lst [.int 0])) q (.lst ((List.replicate M.length (0 : Int)).map V.int))) := same_add s1l hq0
    have hqN : H1 q = none := Same.free s1l hq0
    generalize eH2 : upd (upd H1 l (.lst [.int 0])) q (.lst ((List.replicate M.length (0 : Int)).map V.int)) = H2 at *
    have hq2 : H2 q = some (.lst ((sumC M cs 0).map V.int)) := by rw [← eH2]; exact upd_same
    have hT2 := hT.same (Same.trans s1 sq)
    have hqH : H q = none := Same.free s1 hqN
    have main : ∀ (H3 : Hp) (r : Addr) (xs : List V) (J : It) (D : Ends), Same H2 H3 → H2 r = none → H3 r = some (.lst xs) → StsAt H3 xs M → PairsJ J (Keep q H3) (cs.map V.int) xs →
        (∀ σ H4, Keep q H3 H4 → H4 q = some (.lst ((sumC M cs M.length).map V.int)) → (∃ v3 v4 v5 v6, σ = [some (.ref x), some (.ref a), some (.ref q), v3, v4, v5, v6, none]) → D.nx σ H4) →
        ∃ W : Nat → Nat → L2.St → Hp → Prop, (∃ m, W 0 m [some (.ref x), some (.ref a), some (.ref q), none, none, none, none, none] H3) ∧ ∀ i m σ H, W i m σ H →
          (J.stop i H ∧ D.nx σ H) ∨ (J.go i H ∧ ∃ N : L2.St → Hp → Prop, (∀ σ' H', N σ' H' → ∃ m', m' < m ∧ W (i + 1) m' σ' H') ∧ ∀ v H', J.yld i H v H' → gTup K 2 (gCons (gName 3) (gCons (gTup K 2 (gCons (gName 4) (gCons (gName 5) gNil))) gNil)) v σ H' fun σ2 H2 =>
            tFor (iTup K (tVar 5)) (gName 6) (tAugS (tVar 2) (tVar 6) (tVar 3) (rGetN K) (ipI fun i j => i + j) rSetL) { D with nx := N, ct := N, bk := D.nx } σ2 H2) := by
      intro H3 r xs J D s3 hr0 hr hxs hj hd
      have hrq : r ≠ q := fun e => by rw [e, hq2] at hr0; cases hr0
      have hq3 := s3 _ _ hq2
      refine for_pairs hj (by rw [List.length_map, hc.len, hxs.1]) (fun i σ H4 => (∃ v3 v4 v5 v6, σ = [some (.ref x), some (.ref a), some (.ref q), v3, v4, v5, v6, none]) ∧ Keep q H3 H4 ∧ H4 q = some (.lst ((sumC M cs i).map V.int)))
        ⟨⟨none, none, none, none, rfl⟩, keep_rfl, hq3⟩ (fun i σ H4 h => h.2.1) ?_ ?_
      · rintro i y z Tp σ H4 hy hz ⟨⟨v3, v4, v5, v6, rfl⟩, k4, hq4⟩ hTp
        obtain ⟨d, hd', rfl⟩ := ints_at hy
        have hxs4 : StsAt H4 xs M := hxs.keepT hq3 k4
        obtain ⟨hi, b, g, rfl, hb, hg, hmem⟩ := sts_at hxs4 hz
        have s45 : Same H4 (upd H4 Tp (.tup [.int d, .ref b])) := same_new hTp
        generalize eH5 : upd H4 Tp (.tup [.int d, .ref b]) = H5 at *
        have hTp5 : H5 Tp = some (.tup [.int d, .ref b]) := by rw [← eH5]; exact upd_same
        refine ⟨Tp, _, rfl, SqT.of hTp5, rfl, _, _, rfl, _, _, rfl, b, _, rfl, SqT.of (s45 _ _ hb), rfl, _, _, rfl, _, _, rfl, rfl, rfl, ?_⟩
        refine ⟨_, rfl, g, rfl, ⟨_, SqT.of (s45 _ _ hg)⟩, ?_⟩
        have hgq : g ≠ q := ne_of hg hq4 (by intro z; cases z)
        refine for_seq (S := fun H6 => H6 g = some (.tup ((M.getD i (0, [])).2.map V.int))) (sj_T fun H6 h6 => SqT.of h6) (fun j σ H6 => (∃ v6, σ = [some (.ref x), some (.ref a), some (.ref q), some (.int d), some (.int (M.getD i (0, [])).1), some (.ref g), v6, none]) ∧ Keep q H3 H6 ∧ H6 g = some (.tup ((M.getD i (0, [])).2.map V.int)) ∧ H6 q = some (.lst ((addR (sumC M cs i) ((M.getD i (0, [])).2.take j) d).map V.int)))
          ⟨⟨_, rfl⟩, keep_trans k4 (same_keep s45), s45 _ _ hg, s45 _ _ hq4⟩ (fun j σ H6 h => h.2.2.1) ?_ ?_
        · rintro j y σ H6 hy ⟨⟨v6, rfl⟩, k6, hg6, hq6⟩
          obtain ⟨t, ht, rfl⟩ := ints_at hy
          have hgo := hO.ok.goal _ hmem t (List.mem_of_getElem? ht)
          have hlen : (addR (sumC M cs i) ((M.getD i (0, [])).2.take j) d).length = M.length := by rw [addR_len, sumC_len]
          have htk : (M.getD i (0, [])).2.take (j + 1) = (M.getD i (0, [])).2.take j ++ [t] := by rw [List.take_add_one, ht]; rfl
          refine ⟨_, rfl, _, rfl, q, _, t, _, rfl, rfl, SqL.of hq6, hgo.1, map_get_int (by omega), ?_⟩
          refine ⟨_, rfl, _, _, rfl, rfl, ?_⟩
          refine ⟨q, _, t, t.toNat, rfl, rfl, hq6, ix_in hgo.1 (by rw [List.length_map, hlen]; exact hgo.2), ?_⟩
          refine ⟨⟨_, rfl⟩, ?_, ?_, ?_⟩
          · intro b' o n e
            rw [upd_ne n]
            exact k6 b' o n e
          · rw [upd_ne hgq]; exact hg6
          · rw [upd_same, map_set_int, htk, addR_snoc]; rfl
        · rintro σ H6 ⟨⟨v6, rfl⟩, k6, hg6, hq6⟩
          rw [List.length_map, List.take_length] at hq6
          refine ⟨⟨_, _, _, _, rfl⟩, k6, ?_⟩
          rw [hq6, sumC, cs_get hd']
      · rintro σ H4 ⟨hσ, k4, hq4⟩
        rw [List.length_map, hc.len] at hq4
        exact hd σ H4 k4 hq4 hσ
    have tail : ∀ (H3 : Hp) (σ : L2.St) (H4 : Hp), Same H2 H3 → Keep q H3 H4 → H4 q = some (.lst ((sumC M cs M.length).map V.int)) → (∃ v3 v4 v5 v6, σ = [some (.ref x), some (.ref a), some (.ref q), v3, v4, v5, v6, none]) →
        tLc (iList K (tVar 2)) (gName 7) tYes (tOp (fun x y H Q => ∃ i j, x = .int i ∧ y = .int j ∧ 0 < j ∧ Q (.int (i % j)) H) (tVar 7) (tProp C (getSp C "_prime") [] E0 (tVar 0))) [7] σ H4 Q := by
      rintro H3 σ H4 s3 k4 hq4 ⟨v3, v4, v5, v6, rfl⟩
      have sH : Same H H4 := fun b o e => k4 b o (ne_of_none e hqH) (s3 _ _ (sq _ _ (s1 _ _ e)))
      have hT4 := hT.same sH
      refine ⟨_, rfl, q, rfl, ⟨_, SqL.of hq4⟩, fun Dl hD => ?_⟩
      refine lc_seq (fs := (nextC p M cs).map V.int) (sj_L fun H5 s5 => SqL.of (s5 _ _ hq4)) hD (by rw [List.length_map, List.length_map, (nextC_ok hO.pr M cs).len, sumC_len]) (small1000 (by rw [List.length_map, sumC_len]; omega)) ?_ ?_ gm_nm
      · intro j y z H5 Qk hy hz s5 kk
        obtain ⟨d, hd, rfl⟩ := ints_at hy
        obtain ⟨e, he, rfl⟩ := ints_at hz
        have ee : e = d % p := by
          unfold nextC at he
          rw [List.getElem?_map, hd] at he
          exact (Option.some.inj he).symm
        subst ee
        refine ⟨rfl, _, rfl, _, rfl, prm_q (K := K) (hT4.same s5) ?_⟩
        exact ⟨_, _, rfl, rfl, by omega, kk _ (fun _ _ e => e)⟩
      · intro H5 s5 hDl
        exact k H5 Dl (Same.trans sH s5) (Same.free sH hD) hDl
    obtain ⟨dx, tx, qx, hx1, hxa, hxb⟩ := id hT2
    rcases ha with ha | ha
    · have haq : a ≠ q := ne_of_none ha hqH
      have ha2 := sq _ _ (s1 _ _ ha)
      refine .inl ⟨_, rfl, _, rfl, x, dx, _, rfl, hx1, no_sts _ _ _, x, p, M, st, rfl, hT2, fun H3 r xs s3 hr0 hr hxs => ?_⟩
      have hrq : r ≠ q := fun e => by rw [e, hq2] at hr0; cases hr0
      refine ⟨a, r, _, _, rfl, .inl ⟨SqL.of (s3 _ _ ha2), SqL.of hr, main H3 r xs (Itz K a r) _ s3 hr0 hr hxs (pj_L fun H4 k4 => ⟨SqL.of (k4 a _ haq (s3 _ _ ha2)), SqL.of (k4 r _ hrq hr)⟩) fun σ H4 k4 hq4 hσ => ?_⟩⟩
      exact tail H3 σ H4 s3 k4 hq4 hσ
    · have haq : a ≠ q := ne_of_none ha hqH
      have ha2 := sq _ _ (s1 _ _ ha)
      refine .inr ⟨_, rfl, _, rfl, x, dx, _, rfl, hx1, no_sts _ _ _, x, p, M, st, rfl, hT2, fun H3 r xs s3 hr0 hr hxs => ?_⟩
      have hrq : r ≠ q := fun e => by rw [e, hq2] at hr0; cases hr0
      refine ⟨a, r, _, _, rfl, SqT.of (s3 _ _ ha2), SqL.of hr, main H3 r xs (ItzM K a r) _ s3 hr0 hr hxs (pj_M (by rw [List.length_map, hc.len, hxs.1]) fun H4 k4 => ⟨SqT.of (k4 a _ haq (s3 _ _ ha2)), SqL.of (k4 r _ hrq hr)⟩) fun σ H4 k4 hq4 hσ => ?_⟩
      exact tail H3 σ H4 s3 k4 hq4 hσ
theorem scTT : FnScope ["turner", "counts", "count", "turn", "_"] ["turner", "counts"] (defScope sTT) := ⟨rfl, rfl, rfl, by decide +kernel, rfl, by decide +kernel, by decide +kernel⟩
theorem nmTT : nmB ["turner", "counts", "count", "turn", "_"] [("turner", 0), ("counts", 1)] ["_check_counts", "sum", "zip"] (defScope sTT) = true := by decide +kernel
theorem prodC_at {M : Mach} {cs : List Int} {j : Nat} {z : Int} (h : (prodC M cs)[j]? = some z) : z = cs.getD j 0 * (M.getD j (0, [])).1 := by
  unfold prodC at h
  rw [List.getElem?_map] at h
  by_cases c : j < M.length
  · rw [List.getElem?_range c] at h
    exact (Option.some.inj h).symm
  · rw [List.getElem?_eq_none (by rw [List.length_range]; omega)] at h
    cases h
theorem ok_tt {f : Addr} {fd : FuncData} (F : Fun K "turn_total" "turn_total" sTT f fd) (B : Bn mg) (bs : mg "sum" = none) (T : Tc K C) (D : Df P w K mg base 4 "_check_counts" ["turner", "counts"] (spChC C)) (E2 : Mf P w K mg base 1 C "states" ["self"] (spSts C)) (E4 : Pf P w K mg base 1 C "prime" ["self"] (getSp C "_prime")) : FnOk P w K mg base CX0 5 f fd ["turner", "counts"] (spTT C) := by
  refine F.ok scTT (fun vs H Q E h => ?_) (fun cdv A outer s H vs Q E hr h => ?_)
  · obtain ⟨x, a, p, M, st, cs, rfl, _⟩ := h
    rfl
  · obtain ⟨x, a, p, M, st, cs, rfl, hT, hO, ha, hc, k⟩ := h
    have hl := hO.le
    have p2 := hO.pr.two
    have hcl := T.cl
    obtain ⟨b1, b2, b3, b4, b5, b6, b7, b8, b9, b10, b11⟩ := B
    refine' ex_mk ?d ?_
    case d =>
      have nm := nm_of (CX := CX0) (P := P) (w := w) (K := K) (mg := mg) (base := base) (outer := outer) (H := H) (E := E) nmTT hr
      refine' pss_cons ?s1 (pss_one (ps_ret (pe_op op_mod (n_b (x := "sum") nm bs (cr_sum nm.calm) PyProof.Rows.boot_sum ?bg (pa_cons ?lc pa_nil)) (n_p nm hcl E4 (by decide) ?e5))))
      case s1 => walk_at "ps"
      case bg => walk_at "mem"
      case e5 => walk_at "pe"
      case lc =>
        refine' n_lc (own := [("count", 2), ("turn", 3), ("_", 4)]) (g := gTup K 2 (gCons (gName 2) (gCons (gTup K 2 (gCons (gName 3) (gCons (gName 4) gNil))) gNil))) (NS' := [("count", 2), ("turn", 3), ("_", 4)]) (WS' := [("count", 2), ("turn", 3), ("_", 4)]) (G' := []) (N := ["turner", "counts", "count", "turn", "_"]) (scD := defScope sTT) nm rfl rfl (by decide +kernel) (by decide +kernel) (pi_or (n_zipA nm (by walk_at "as") ?z1 (pa_cons ?z2 (pa_cons ?z3 pa_nil))) (n_zip nm (by walk_at "as") ?z4 (pa_cons ?z5 (pa_cons ?z6 pa_nil)))) (fun X' nm2 => ?lg) (fun X' nm2 => ?le)
        case z1 => walk_at "mem"
        case z2 => walk_at "pe"
        case z3 => walk_at "pe"
        case z4 => walk_at "mem"
        case z5 => walk_at "pe"
        case z6 => walk_at "pe"
        case lg => walk_at "pg"
        case le => walk_at "pe"
    refine ⟨_, rfl, _, rfl, x, a, p, M, st, cs, rfl, hT, hO, ha, hc, fun H1 s1 => ?_⟩
    have hT1 := hT.same s1
    obtain ⟨dx, tx, qx, hx1, hxa, hxb⟩ := id hT1
    have body : ∀ (H3 : Hp) (r : Addr) (xs : List V) (J : It) (Dl : Addr) (Qd : Hp → Prop), Same H1 H3 → StsAt H3 xs M → PairsJ J (Same H3) (cs.map V.int) xs → H3 Dl = none → (∀ H', Same H3 H' → H' Dl = some (.lst ((prodC M cs).map V.int)) → Qd H') →
        ∃ W : Nat → Nat → Hp → Prop, (∃ m, W 0 m (upd H3 Dl (.lst []))) ∧ ∀ i' m H, W i' m H →
      (J.stop i' H ∧ Qd H) ∨ (J.go i' H ∧ ∃ Nx : Hp → Prop, (∀ H', Nx H' → ∃ m', m' < m ∧ W (i' + 1) m' H') ∧ ∀ x' H', J.yld i' H x' H' → gTup K 2 (gCons (gName 2) (gCons (gTup K 2 (gCons (gName 3) (gCons (gName 4) gNil))) gNil)) x' [some (.ref x), some (.ref a), none, none, none] H' fun σ2 H2 => wipe σ2 [2, 3, 4] = [some (.ref x), some (.ref a), none, none, none] ∧ tYes σ2 H2 fun b H3 =>
        if b = true then tOp (rI CMul fun i j => .int (i * j)) (tVar 2) (tVar 3) σ2 H3 fun y H4 => ∃ acc, H4 Dl = some (.lst acc) ∧ acc.length < sizeLine ∧ Nx (upd H4 Dl (.lst (acc ++ [y]))) else Nx H3) := by
      intro H3 r xs J Dl Qd s3 hxs hj hD hd
      refine lc_pairs (σ := [some (.ref x), some (.ref a), none, none, none]) (vs := [2, 3, 4]) (fs := (prodC M cs).map V.int) hj (by rw [List.length_map, hc.len, hxs.1]) hD (by rw [List.length_map, List.length_map, hc.len]; unfold prodC; rw [List.length_map, List.length_range]) (small1000 (by rw [List.length_map, hc.len]; omega)) ?_ hd (gm_tup (gms_cons gm_nm (gms_cons (gm_tup (gms_cons gm_nm (gms_cons gm_nm gms_nil))) gms_nil)))
      intro j y z e Tp H4 Qk hy hz he s34 hTp kk
      obtain ⟨d, hd', rfl⟩ := ints_at hy
      obtain ⟨e, he', rfl⟩ := ints_at he
      obtain rfl := prodC_at he'
      obtain ⟨hi, b, g, rfl, hb, hg, hmem⟩ := sts_at (hxs.same s34) hz
      have s45 : Same H4 (upd H4 Tp (.tup [.int d, .ref b])) := same_new hTp
      have d01 := hc.val d (List.mem_of_getElem? hd')
      refine ⟨Tp, _, rfl, SqT.of upd_same, rfl, _, _, rfl, _, _, rfl, b, _, rfl, SqT.of (s45 _ _ hb), rfl, _, _, rfl, _, _, rfl, rfl, rfl, rfl, ?_⟩
      refine ⟨_, rfl, _, rfl, _, _, rfl, rfl, .inl ⟨by omega, by omega⟩, ?_⟩
      rw [cs_get hd'] at *
      exact kk _ (fun _ _ e => e)
    rcases ha with ha | ha
    · have ha1 := s1 _ _ ha
      refine .inl ⟨_, rfl, _, rfl, x, dx, _, rfl, hx1, no_sts _ _ _, x, p, M, st, rfl, hT1, fun H3 r xs s3 hr0 hr hxs => ?_⟩
      refine ⟨a, r, _, _, rfl, .inl ⟨SqL.of (s3 _ _ ha1), SqL.of hr, fun Dl hD => body H3 r xs (Itz K a r) Dl _ s3 hxs (pj_L fun H4 k4 => ⟨SqL.of (k4 a _ (s3 _ _ ha1)), SqL.of (k4 r _ hr)⟩) hD fun H4 s4 hDl => ?_⟩⟩
      refine ⟨Dl, _, rfl, SqL.of hDl, _, rfl, prm_q (K := K) (hT1.same (Same.trans s3 s4)) ?_⟩
      exact ⟨_, _, rfl, rfl, by show (0 : Int) < p; omega, k H4 (Same.trans s1 (Same.trans s3 s4))⟩
    · have ha1 := s1 _ _ ha
      refine .inr ⟨_, rfl, _, rfl, x, dx, _, rfl, hx1, no_sts _ _ _, x, p, M, st, rfl, hT1, fun H3 r xs s3 hr0 hr hxs => ?_⟩
      refine ⟨a, r, _, _, rfl, SqT.of (s3 _ _ ha1), SqL.of hr, fun Dl hD => body H3 r xs (ItzM K a r) Dl _ s3 hxs (pj_M (by rw [List.length_map, hc.len, hxs.1]) fun H4 k4 => ⟨SqT.of (k4 a _ (s3 _ _ ha1)), SqL.of (k4 r _ hr)⟩) hD fun H4 s4 hDl => ?_⟩
      refine ⟨Dl, _, rfl, SqL.of hDl, _, rfl, prm_q (K := K) (hT1.same (Same.trans s3 s4)) ?_⟩
      exact ⟨_, _, rfl, rfl, by show (0 : Int) < p; omega, k H4 (Same.trans s1 (Same.trans s3 s4))⟩
end

abbrev sJoin : Stmt := top 83
def spJoin : Sp := fun vs H Q _ => ∃ (t u : Addr) (p : Int) (M N : Mach) (st sd : Int), vs = [.ref t, .ref u] ∧ MAt H t p M st ∧ OkT p M st ∧ MAt H u p N sd ∧ OkT p N sd ∧ M.length * N.length ≤ 200 ∧
  ∀ H' y J, Same H H' → Done p M N (st, sd) J → MAt H' y p (outJ p M N (st, sd) J) 0 → Q (.ref y) H'
section
variable {P : Program} {w : World} {K : PySem.W.Frag} {mg : Str → Option Value} {base : Heap} {aP : Addr} {tD : Tok} {C : Addr} {mc u : Value}
theorem scJoin : FnScope ["_law_m", "_law_n", "_law_p", "_law_keys", "_law_rows", "_law_a", "_law_b", "_law_turn", "_law_goals", "_law_x", "_law_pair"] ["_law_m", "_law_n"] (defScope sJoin) := ⟨rfl, rfl, rfl, by decide +kernel, rfl, by decide +kernel, by decide +kernel⟩
theorem nmJoin : nmB ["_law_m", "_law_n", "_law_p", "_law_keys", "_law_rows", "_law_a", "_law_b", "_law_turn", "_law_goals", "_law_x", "_law_pair"] [("_law_m", 0), ("_law_n", 1), ("_law_p", 2), ("_law_keys", 3), ("_law_rows", 4), ("_law_a", 5), ("_law_b", 6), ("_law_turn", 7), ("_law_goals", 8), ("_law_x", 9), ("_law_pair", 10)] ["len", "range", "int", "tuple"] (defScope sJoin) = true := by decide +kernel
theorem ok_join {f : Addr} {fd : FuncData} (F : Fun K "_law_joined" "_law_joined" sJoin f fd) (B : Bn mg) : FnOk P w K mg base CX0 1 f fd ["_law_m", "_law_n"] spJoin := by
  refine F.ok scJoin (fun vs H Q E h => ?_) (fun cdv A outer s H vs Q E hr h => ?_)
  · obtain ⟨t, u, p, M, N, st, sd, rfl, _⟩ := h
    rfl
  · obtain ⟨t, u, p, M, N, st, sd, rfl, hM, hO, hN, hO2, h200, k⟩ := h
    have p2 := hO.pr.two
    obtain ⟨b1, b2, b3, b4, b5, b6, b7, b8, b9, b10, b11⟩ := B
    refine' ex_mk ?d ?_
    case d =>
      have nm := nm_of (CX := CX0) (P := P) (w := w) (K := K) (mg := mg) (base := base) (outer := outer) (H := H) (E := E) nmJoin hr
      have hu := nm.room.un
      refine' pss_cons (ps_par3 (i := 2) (j := 3) (l := 4) rfl nm.nd rfl rfl rfl (by decide) (by decide) (by decide) rfl rfl rfl (pa_cons ?e1 (pa_cons (pe_lst (pa_cons (pe_tup (pa_cons ?e2 (pa_cons ?e3 pa_nil))) pa_nil)) (pa_cons ?e4 pa_nil))) (by rfl))
        (pss_cons (ps_while PassesOwn.never ?wc (pss_cons ?w1 (pss_cons (ps_par (i := 7) (j := 8) rfl nm.nd rfl rfl (by decide) rfl rfl (pa_cons (n_ixT nm (n_ixL nm ?f1 ?f2 (fun _ _ => rfl)) pe_int (fun _ _ => rfl)) (pa_cons ?f3 pa_nil)) (by rfl))
          (pss_cons (n_for nm PassesOwn.never ?li ?lg (pss_cons ?c1 (pss_cons ?c2 (pss_one ?c3)))) (pss_one ?w4))))) (pss_one ?ret))
      case e1 => walk_at "peT"
      case e2 => walk_at "peT"
      case e3 => walk_at "peT"
      case e4 => walk_at "pe"
      case wc => walk_at "pt"
      case w1 => walk_at "ps"
      case f1 => walk_at "peT"
      case f2 => walk_at "pe"
      case f3 => walk_at "pe"
      case li => walk_at "pi"
      case lg => walk_at "pg"
      case c1 =>
        refine' ps_asg (pe_tup (pa_cons (n_ixT nm (n_ixT nm (n_ixL nm ?r1 ?r2 (fun _ _ => rfl)) pe_int (fun _ _ => rfl)) ?r3 (fun _ _ => rfl)) (pa_cons (n_ixT nm (n_ixT nm (n_ixL nm ?r4 ?r5 (fun _ _ => rfl)) pe_int (fun _ _ => rfl)) ?r6 (fun _ _ => rfl)) pa_nil))) ?r7
        case r1 => walk_at "peT"
        case r2 => walk_at "pe"
        case r3 => walk_at "pe"
        case r4 => walk_at "peT"
        case r5 => walk_at "pe"
        case r6 => walk_at "pe"
        case r7 => walk_at "pg"
      case c2 =>
        refine' ps_if (pt_cmpR (op_notInD (by omega)) ?r1 ?r2 (by with_unfolding_all rfl)) ?r3 pss_nil
        case r1 => walk_at "pe"
        case r2 => walk_at "pe"
        case r3 => walk_at "pss"
      case c3 =>
        refine' ps_expr (pe_bm PySem.F.plainAttrs_list PySem.F.slot_list_append PySem.F.type_list_append mt_append ?r1 (pa_cons (pe_bm PySem.F.plainAttrs_list PySem.F.slot_list_index PySem.F.type_list_index (mt_indexD (by omega)) ?r2 (pa_cons ?r3 pa_nil)) pa_nil))
        case r1 => walk_at "pe"
        case r2 => walk_at "pe"
        case r3 => walk_at "pe"
      case w4 =>
        refine' ps_expr (pe_bm PySem.F.plainAttrs_list PySem.F.slot_list_append PySem.F.type_list_append mt_append ?r1 (pa_cons (pe_tup (pa_cons (pe_op op_mod (n_t (x := "int") nm (by walk_at "as") call_int1 PyProof.Rows.boot_int ?bi (pa_cons (pe_op op_add ?r2 (n_ixT nm (n_ixL nm ?r3 ?r4 (fun _ _ => rfl)) pe_int (fun _ _ => rfl))) pa_nil)) ?r5) (pa_cons ?r6 pa_nil))) pa_nil))
        case r1 => walk_at "pe"
        case bi => walk_at "mem"
        case r2 => walk_at "pe"
        case r3 => walk_at "peT"
        case r4 => walk_at "pe"
        case r5 => walk_at "pe"
        case r6 => walk_at "pe"
      case ret => walk_at "ps"
    obtain ⟨mr, mxs, hm1, hm2, hm3⟩ := hM
    obtain ⟨nr, nxs, hn1, hn2, hn3⟩ := hN
    refine ⟨_, rfl, t, _, 0, _, rfl, rfl, SqT.of hm1, rfl, ?_⟩
    refine ⟨_, rfl, t, _, 2, _, rfl, rfl, SqT.of hm1, rfl, _, rfl, u, _, 2, _, rfl, rfl, SqT.of hn1, rfl, ?_⟩
    refine ⟨by show 2 ≤ sizeLine; decide, fun k0 hk0 => ?_⟩
    refine ⟨by show 1 ≤ sizeLine; decide, fun q hq0 => ?_⟩
    refine ⟨by show 0 ≤ sizeLine; decide, fun r hr0 => ?_⟩
    refine ⟨_, _, _, rfl, ?_⟩
    have hP := hO.pr
    have s0 : Same H (upd (upd (upd H k0 (.tup [.int st, .int sd])) q (.lst [.ref k0])) r (.lst [])) := same_add (same_add (same_new hk0) hq0) hr0
    have hqN : H q = none := Same.free (same_new hk0) hq0
    have hrN : H r = none := Same.free (same_add (same_new hk0) hq0) hr0
    have nqr : q ≠ r := ne_of_none upd_same hr0
    have in0 : InK M N (st, sd) := ⟨hO.st0, hO.st1, hO2.st0, hO2.st1⟩
    refine ⟨fun m σ H' => ∃ (j : Nat) (v5 v6 v7 v8 v9 v10 : Option V) (xs ys : List V), m + j = M.length * N.length ∧ σ = [some (.ref t), some (.ref u), some (.int p), some (.ref q), some (.ref r), v5, v6, v7, v8, v9, v10] ∧ Same H H' ∧
      H' q = some (.lst xs) ∧ KysAt H' xs (keyJ p M N (st, sd) j) ∧ H' r = some (.lst ys) ∧ StsAt H' ys (outJ p M N (st, sd) j) ∧ ∀ i, i < j → i < (keyJ p M N (st, sd) i).length,
      ⟨_, 0, none, none, none, none, none, none, [.ref k0], [], rfl, rfl, s0, ?_, ?_, upd_same, ⟨rfl, fun i x z e => by simp at e⟩, fun i hi => absurd hi (Nat.not_lt_zero i)⟩, ?_⟩
    · rw [upd_ne nqr, upd_same]
    · refine ⟨rfl, fun i x c e1 e2 => ?_⟩
      match i, e1, e2 with
      | 0, e1, e2 =>
        obtain rfl := Option.some.inj e1
        obtain rfl := Option.some.inj e2
        have a1 : Same (upd H k0 (.tup [.int st, .int sd])) (upd (upd (upd H k0 (.tup [.int st, .int sd])) q (.lst [.ref k0])) r (.lst [])) := same_add (same_new hq0) hr0
        exact ⟨k0, rfl, a1 _ _ upd_same⟩
      | i + 1, e1, e2 => exact absurd e1 (by simp)
    rintro m σ H' ⟨j, v5, v6, v7, v8, v9, v10, xs, ys, hm, rfl, s1, hq, hks, hr, hrs, hgo⟩
    have hjl := done_len hP hO.ok hO2.ok in0 hgo
    have lx := hks.1
    have ly := hrs.1
    rw [outJ_len] at ly
    refine ⟨_, rfl, r, _, rfl, .inl (SqL.of hr), _, rfl, q, _, rfl, .inl (SqL.of hq), _, _, rfl, rfl, _, rfl, ?_⟩
    by_cases c : (ys.length : Int) < (xs.length : Int)
    · refine Eq.mpr (if_pos (decide_eq_true c)) ?_
      have hj : j < (keyJ p M N (st, sd) j).length := by omega
      have hgo2 : ∀ i, i < j + 1 → i < (keyJ p M N (st, sd) i).length := fun i hi => by
        by_cases e : i = j
        · rw [e]; exact hj
        · exact hgo i (by omega)
      have hjl2 := done_len hP hO.ok hO2.ok in0 hgo2
      obtain ⟨pre, epre⟩ := rowK_pre (p := p) (M := M) (N := N) ((keyJ p M N (st, sd) j).getD j (0, 0)) (keyJ p M N (st, sd) j) p.toNat
      refine ⟨fun σ' H2 => ∃ (v5 v6 v7 v8 v9 v10 : Option V) (xs ys : List V), σ' = [some (.ref t), some (.ref u), some (.int p), some (.ref q), some (.ref r), v5, v6, v7, v8, v9, v10] ∧ Same H H2 ∧
        H2 q = some (.lst xs) ∧ KysAt H2 xs (keyJ p M N (st, sd) (j + 1)) ∧ H2 r = some (.lst ys) ∧ StsAt H2 ys (outJ p M N (st, sd) (j + 1)),
        fun σ' H2 ⟨v5, v6, v7, v8, v9, v10, xs, ys, e, z1, z2, z3, z4, z5⟩ => ⟨m - 1, by omega, j + 1, v5, v6, v7, v8, v9, v10, xs, ys, by omega, e, z1, z2, z3, z4, z5, hgo2⟩, ?_⟩
      have hxj : j < xs.length := by omega
      have ek : (keyJ p M N (st, sd) j)[j]? = some ((keyJ p M N (st, sd) j).getD j (0, 0)) := by rw [List.getD_eq_getElem?_getD, List.getElem?_eq_getElem hj]; rfl
      have hin := keyJ_in hP hO.ok hO2.ok in0 j hgo _ (getD_mem hj)
      generalize eK : (keyJ p M N (st, sd) j).getD j (0, 0) = key at *
      obtain ⟨ka, eka, hka⟩ := hks.2 j _ _ (List.getElem?_eq_getElem hxj) ek
      have eat : atI xs (ys.length : Int) = some (.ref ka) := by rw [ly]; exact atI_nat (by rw [List.getElem?_eq_getElem hxj, eka])
      refine ⟨_, rfl, _, rfl, r, _, rfl, .inl (SqL.of hr), q, xs, _, _, rfl, rfl, SqL.of hq, eat, ka, _, rfl, SqT.of hka, rfl, _, _, rfl, _, _, rfl, rfl, ?_⟩
      obtain ⟨as, ag, ea1, ea2, ea3⟩ := (hm3.same s1).get hin.1 hin.2.1
      obtain ⟨bs, bg, eb1, eb2, eb3⟩ := (hn3.same s1).get hin.2.2.1 hin.2.2.2
      refine ⟨_, rfl, t, _, 1, _, rfl, rfl, SqT.of (s1 _ _ hm1), rfl, _, rfl, mr, mxs, _, _, rfl, rfl, SqL.of (s1 _ _ hm2), ea1, as, _, 0, _, rfl, rfl, SqT.of ea2, rfl, ?_⟩
      refine ⟨by show 0 ≤ sizeLine; decide, fun g hg0 => ⟨_, _, rfl, ?_⟩⟩
      have ngq : q ≠ g := ne_of_none hq hg0
      have ngr : r ≠ g := ne_of_none hr hg0
      have sg : Same H' (upd H' g (.lst [])) := same_new hg0
      have hgN : H g = none := Same.free s1 hg0
      have kin := keyJ_in hP hO.ok hO2.ok in0 j hgo
      have hlen : ∀ x : Nat, (x : Int) ≤ p → (rowK p M N key (keyJ p M N (st, sd) j) x).length ≤ 200 := fun x hx =>
        Nat.le_trans (inK_len (rowK_nodup key (keyJ_nodup (st, sd) j) x) (rowK_in hP hO.ok hO2.ok kin hin x hx)) h200
      have eJ : keyJ p M N (st, sd) (j + 1) = rowK p M N key (keyJ p M N (st, sd) j) p.toNat := by rw [keyJ, eK]
      have eO : outJ p M N (st, sd) (j + 1) = outJ p M N (st, sd) j ++ [outS p M N key (keyJ p M N (st, sd) j)] := by rw [outJ, eK]
      have mm := many_at hO.ok hin.1 hin.2.1
      have mn := many_at hO2.ok hin.2.2.1 hin.2.2.2
      refine ⟨_, rfl, _, rfl, by omega, by omega, for_range (lo := 0) (n := p.toNat) (fun x σ H2 => ∃ (v9 v10 : Option V) (zs : List V), σ = [some (.ref t), some (.ref u), some (.int p), some (.ref q), some (.ref r), some (.int key.1), some (.int key.2), some (.int (turnM M key.1)), some (.ref g), v9, v10] ∧
        Same H H2 ∧ H2 q = some (.lst zs) ∧ KysAt H2 zs (rowK p M N key (keyJ p M N (st, sd) j) x) ∧ H2 r = some (.lst ys) ∧ StsAt H2 ys (outJ p M N (st, sd) j) ∧ H2 g = some (.lst ((goalsK p M N key (keyJ p M N (st, sd) j) x).map V.int)))
        ⟨v9, v10, xs, rfl, Same.trans s1 sg, by rw [upd_ne ngq]; exact hq, hks.same sg, by rw [upd_ne ngr]; exact hr, hrs.same sg, upd_same⟩ ?_ ?_⟩
      · rintro x σ H2 hx ⟨w9, w10, zs, rfl, s2, hq2, hk2, hr2, hs2, hg2⟩
        have ez : (0 : Int) + (x : Int) = (x : Int) := by omega
        rw [ez]
        obtain ⟨as, ag, ea1, ea2, ea3⟩ := (hm3.same s2).get hin.1 hin.2.1
        obtain ⟨bs, bg, eb1, eb2, eb3⟩ := (hn3.same s2).get hin.2.2.1 hin.2.2.2
        have md := md_in hP ((x : Int) + turnM M key.1)
        have ax := at_ints (l := (M.getD key.1.toNat (0, [])).2) (d := (x : Int)) (by omega) (by omega)
        have bx := at_ints (l := (N.getD key.2.toNat (0, [])).2) (d := ((x : Int) + turnM M key.1) % p) md.1 (by omega)
        refine ⟨_, rfl, t, _, 1, _, rfl, rfl, SqT.of (s2 _ _ hm1), rfl, _, rfl, mr, mxs, _, _, rfl, rfl, SqL.of (s2 _ _ hm2), ea1, as, _, 1, _, rfl, rfl, SqT.of ea2, rfl, _, rfl, ag, _, _, _, rfl, rfl, SqT.of ea3, ax, ?_⟩
        refine ⟨_, rfl, u, _, 1, _, rfl, rfl, SqT.of (s2 _ _ hn1), rfl, _, rfl, nr, nxs, _, _, rfl, rfl, SqL.of (s2 _ _ hn2), eb1, bs, _, 1, _, rfl, rfl, SqT.of eb2, rfl, _, rfl, _, rfl, _, _, rfl, rfl, .inl ⟨_, rfl, ?_⟩⟩
        refine ⟨_, rfl, _, _, rfl, rfl, (by show (0 : Int) < p; omega), bg, _, _, _, rfl, rfl, SqT.of eb3, bx, ?_⟩
        refine ⟨by show 2 ≤ sizeLine; decide, fun pr hpr => ?_⟩
        have s23 : Same H2 (upd H2 pr (.tup [.int (goM M key.1 (x : Int)), .int (goM N key.2 (((x : Int) + turnM M key.1) % p))])) := same_new hpr
        dsimp only [gName]
        refine cut (Pv := fun σ' H4 => ∃ zs' : List V, σ' = [some (.ref t), some (.ref u), some (.int p), some (.ref q), some (.ref r), some (.int key.1), some (.int key.2), some (.int (turnM M key.1)), some (.ref g), some (.int (x : Int)), some (.ref pr)] ∧
          Same H H4 ∧ H4 q = some (.lst zs') ∧ KysAt H4 zs' (rowK p M N key (keyJ p M N (st, sd) j) (x + 1)) ∧ H4 r = some (.lst ys) ∧ StsAt H4 ys (outJ p M N (st, sd) j) ∧ H4 g = some (.lst ((goalsK p M N key (keyJ p M N (st, sd) j) x).map V.int)) ∧ KyAt H4 (.ref pr) (nxtP p M N key x)) ?_ ?_
        · rintro σ' H4 ⟨zs', rfl, s4, hq4, hk4, hr4, hs4, hg4, hp4⟩
          refine ⟨_, rfl, .inl ⟨rfl, _, SqL.of hg4⟩, _, rfl, .inl ⟨rfl, _, SqL.of hq4⟩, _, rfl, ?_⟩
          dsimp only [tNil]
          refine index_keys hp4 hq4 hk4 (addK_mem _ _) ⟨g, _, _, rfl, rfl, hg4, ?_, ?_⟩
          · rw [List.length_map, goalsK_len]
            exact small1000 (by omega)
          · refine ⟨_, _, zs', rfl, same_put s4 hgN, by rw [upd_ne ngq]; exact hq4, hk4.lst hg4, by rw [upd_ne ngr]; exact hr4, hs4.lst hg4, ?_⟩
            rw [upd_same, goalsK, List.map_append]; rfl
        · intro Nn hNn
          have hq3 := s23 _ _ hq2
          have hk3 := hk2.same s23
          have hp3 : KyAt (upd H2 pr (.tup [.int (goM M key.1 (x : Int)), .int (goM N key.2 (((x : Int) + turnM M key.1) % p))])) (.ref pr) (nxtP p M N key x) := ⟨pr, rfl, upd_same⟩
          refine ⟨_, rfl, _, rfl, notIn_keys hp3 hq3 hk3 ⟨_, rfl, ?_⟩⟩
          by_cases hmem : nxtP p M N key x ∈ rowK p M N key (keyJ p M N (st, sd) j) x
          · refine Eq.mpr (if_neg (by simp [hmem])) ?_
            have e1 : rowK p M N key (keyJ p M N (st, sd) j) (x + 1) = rowK p M N key (keyJ p M N (st, sd) j) x := by rw [rowK, addK, if_pos hmem]
            refine hNn _ _ ⟨zs, rfl, Same.trans s2 s23, hq3, by rw [e1]; exact hk3, s23 _ _ hr2, hs2.same s23, s23 _ _ hg2, hp3⟩
          · refine Eq.mpr (if_pos (by simp [hmem])) ?_
            have e1 : rowK p M N key (keyJ p M N (st, sd) j) (x + 1) = rowK p M N key (keyJ p M N (st, sd) j) x ++ [nxtP p M N key x] := by rw [rowK, addK, if_neg hmem]
            refine ⟨_, rfl, .inl ⟨rfl, _, SqL.of hq3⟩, _, rfl, q, _, _, rfl, rfl, hq3, ?_, ?_⟩
            · rw [hk2.1]
              exact small1000 (by have := hlen x (by omega); omega)
            · refine hNn _ _ ⟨zs ++ [.ref pr], rfl, same_put (Same.trans s2 s23) hqN, upd_same, by rw [e1]; exact (hk3.snoc hp3).lst hq3, ?_, (hs2.same s23).lst hq3, ?_, hp3.lst hq3⟩
              · rw [upd_ne nqr.symm]; exact s23 _ _ hr2
              · rw [upd_ne ngq.symm]; exact s23 _ _ hg2
      · rintro σ H2 ⟨w9, w10, zs, rfl, s2, hq2, hk2, hr2, hs2, hg2⟩
        obtain ⟨bs, bg, eb1, eb2, eb3⟩ := (hn3.same s2).get hin.2.2.1 hin.2.2.2
        refine ⟨_, rfl, .inl ⟨rfl, _, SqL.of hr2⟩, ?_⟩
        refine ⟨_, rfl, _, rfl, u, _, 1, _, rfl, rfl, SqT.of (s2 _ _ hn1), rfl, _, rfl, nr, nxs, _, _, rfl, rfl, SqL.of (s2 _ _ hn2), eb1, bs, _, 0, _, rfl, rfl, SqT.of eb2, rfl, _, _, rfl, rfl, .inl ⟨_, rfl, ?_⟩⟩
        refine ⟨_, rfl, _, _, rfl, rfl, (by show (0 : Int) < p; omega), ?_⟩
        refine ⟨_, rfl, g, _, rfl, .inl ⟨SqL.of hg2, fun l hl => ?_⟩⟩
        refine ⟨by show 2 ≤ sizeLine; decide, fun e he => ?_⟩
        have s25 : Same H2 (upd (upd H2 l (.tup ((goalsK p M N key (keyJ p M N (st, sd) j) p.toNat).map V.int))) e (.tup [.int ((turnM M key.1 + turnM N key.2) % p), .ref l])) := same_add (same_new hl) he
        refine ⟨r, _, _, rfl, rfl, s25 _ _ hr2, ?_, ?_⟩
        · rw [ly]
          exact small1000 (by omega)
        · have hS : StAt (upd (upd H2 l (.tup ((goalsK p M N key (keyJ p M N (st, sd) j) p.toNat).map V.int))) e (.tup [.int ((turnM M key.1 + turnM N key.2) % p), .ref l])) (.ref e) (outS p M N key (keyJ p M N (st, sd) j)) :=
            ⟨e, l, rfl, upd_same, by rw [upd_ne (ne_of_none upd_same he)]; exact upd_same⟩
          refine ⟨_, _, _, _, _, _, zs, ys ++ [.ref e], rfl, same_put (Same.trans s2 s25) hrN, ?_, ?_, upd_same, ?_⟩
          · rw [upd_ne nqr]; exact s25 _ _ hq2
          · rw [eJ]; exact (hk2.same s25).lst (s25 _ _ hr2)
          · rw [eO]; exact ((hs2.same s25).snoc hS).lst (s25 _ _ hr2)
    · refine Eq.mpr (if_neg (by simpa using c)) ?_
      have D : Done p M N (st, sd) j := ⟨hgo, by
        have h1 : (keyJ p M N (st, sd) j).length ≤ j := by omega
        rcases Nat.lt_or_ge (keyJ p M N (st, sd) j).length j with h2 | h2
        · match j, h2 with
          | j + 1, h2 =>
            obtain ⟨pre, e⟩ := rowK_pre (p := p) (M := M) (N := N) ((keyJ p M N (st, sd) j).getD j (0, 0)) (keyJ p M N (st, sd) j) p.toNat
            have h3 := hgo j (Nat.lt_succ_self j)
            rw [keyJ, e, List.length_append] at h2
            omega
        · omega⟩
      refine ⟨_, rfl, _, rfl, by show 3 ≤ sizeLine; decide, fun y hy => ?_⟩
      refine k _ y j (same_add s1 hy) D ⟨r, ys, upd_same, ?_, hrs.same (same_new hy)⟩
      rw [upd_ne (ne_of_none hr hy)]; exact hr
end

abbrev sOd : Stmt := top 84
abbrev sSg : Stmt := top 85
def odoM (p : Int) : Mach := [(1, List.replicate (p - 1).toNat 1 ++ [0]), (0, List.replicate p.toNat 1)]
def spOd : Sp := fun vs H Q _ => ∃ (p : Int), vs = [.int p] ∧ IsP p ∧ ∀ H' y, Same H H' → MAt H' y p (odoM p) 0 → Q (.ref y) H'
theorem odo_ok {p : Int} (hP : IsP p) : OkT p (odoM p) 0 := by
  rcases hP with rfl | rfl | rfl | rfl <;> exact ⟨by unfold IsP; omega, ⟨by decide, by decide, by decide⟩, by decide, by decide, by decide⟩
/-- the bag stands apart from a machine -/
theorem MAt.apart {H : Hp} {b l t r : Addr} {xs : List V} {M : Mach} (B : Bag H b l) (h : H r = some (.lst xs)) (hM : StsAt H xs M) : r ≠ b := fun e => by
  obtain ⟨i, k, m, u, ns, hb, _⟩ := B
  rw [e, hb] at h
  have e2 := HO.lst.inj (Option.some.inj h)
  subst e2
  have h1 : 1 < M.length := by rw [← hM.1]; show 1 < 5; decide
  obtain ⟨a, g, e3, _⟩ := hM.2 1 (.int i) M[1] rfl (List.getElem?_eq_getElem h1)
  cases e3
theorem MAt.keep {H H' : Hp} {b l t : Addr} {p : Int} {M : Mach} {st : Int} (h : MAt H t p M st) (B : Bag H b l) (k : Keep b H H') : MAt H' t p M st := by
  obtain ⟨r, xs, h1, h2, h3⟩ := h
  exact ⟨r, xs, k t _ (B.tup h1) h1, k r _ (MAt.apart (t := t) B h2 h3) h2, h3.keep B k⟩
theorem OkT.und0 {p : Int} {M : Mach} {st : Int} (h : OkT p M st) : OkT p (undM p M) st :=
  ⟨h.pr, by rw [undM_len]; exact undM_ok h.pr h.ok, h.st0, by rw [undM_len]; exact h.st1, by rw [undM_len]; exact h.le⟩
theorem OkT.join {p : Int} {M N : Mach} {st sd : Int} {J : Nat} (h1 : OkT p M st) (h2 : OkT p N sd) (hz : M.length * N.length ≤ 200) (D : Done p M N (st, sd) J) : OkT p (outJ p M N (st, sd) J) 0 ∧ (outJ p M N (st, sd) J).length ≤ M.length * N.length := by
  have hl : (outJ p M N (st, sd) J).length ≤ M.length * N.length := by
    rw [outJ_len]
    have h := done_len h1.pr h1.ok h2.ok (s0 := (st, sd)) ⟨h1.st0, h1.st1, h2.st0, h2.st1⟩ D.go
    have := D.stop
    omega
  refine ⟨⟨h1.pr, done_ok h1.pr D, by decide, ?_, by omega⟩, hl⟩
  rw [outJ_len]
  rcases Nat.eq_zero_or_pos J with e | e
  · subst e
    have := D.stop
    have z : (keyJ p M N (st, sd) 0).length = 1 := rfl
    omega
  · omega
section
variable {P : Program} {w : World} {K : PySem.W.Frag} {mg : Str → Option Value} {base : Heap} {aP : Addr} {tD : Tok} {C : Addr} {mc u : Value}
theorem scOd : FnScope ["_law_p"] ["_law_p"] (defScope sOd) := ⟨rfl, rfl, rfl, by decide +kernel, rfl, by decide +kernel, by decide +kernel⟩
theorem nmOd : nmB ["_law_p"] [("_law_p", 0)] [] (defScope sOd) = true := by decide +kernel
theorem ok_od {f : Addr} {fd : FuncData} (F : Fun K "_law_odometer" "_law_odometer" sOd f fd) : FnOk P w K mg base CX0 1 f fd ["_law_p"] spOd := by
  refine F.ok scOd (fun vs H Q E h => ?_) (fun cdv A outer s H vs Q E hr h => ?_)
  · obtain ⟨p, rfl, _⟩ := h
    rfl
  · obtain ⟨p, rfl, hP, k⟩ := h
    have p2 := hP.two
    refine' ex_mk ?d ?_
    case d =>
      have nm := nm_of (CX := CX0) (P := P) (w := w) (K := K) (mg := mg) (base := base) (outer := outer) (H := H) (E := E) nmOd hr
      refine' pss_one (ps_ret (pe_tup (pa_cons ?e1 (pa_cons (pe_lst (pa_cons (pe_tup (pa_cons pe_int (pa_cons (pe_op op_catA (pe_op op_repN (pe_tup (pa_cons pe_int pa_nil)) ?e2) (pe_tup (pa_cons pe_int pa_nil))) pa_nil))) (pa_cons (pe_tup (pa_cons pe_int (pa_cons (pe_op op_repN (pe_tup (pa_cons pe_int pa_nil)) ?e3) pa_nil))) pa_nil))) (pa_cons pe_int pa_nil)))))
      case e1 => walk_at "pe"
      case e2 => walk_at "pe"
      case e3 => walk_at "pe"
    refine ⟨_, rfl, by show 1 ≤ sizeLine; decide, fun a1 h1 => ?_⟩
    refine ⟨_, rfl, _, _, rfl, rfl, repN_one upd_same (by omega) (by omega) fun a2 H2 s2 _ h2 => ?_⟩
    refine ⟨by show 1 ≤ sizeLine; decide, fun a3 h3 => ?_⟩
    have s23 : Same H2 (upd H2 a3 (.tup [.int 0])) := same_new h3
    have ne1 : (List.replicate (p - 1).toNat (1 : Int)).map V.int ≠ [] := fun e => by
      have := congrArg List.length e
      rw [List.length_map, List.length_replicate] at this
      have z : ([] : List V).length = 0 := rfl
      omega
    refine ⟨a2, a3, _, _, rfl, rfl, SqT.of (s23 _ _ h2), SqT.of upd_same, ?_, fun e => absurd e ne1, fun _ e => absurd e (by simp), fun _ _ c hc => ?_⟩
    · rw [List.length_map, List.length_replicate]
      have := small1000 (n := (p - 1).toNat + 1) (by omega)
      exact Nat.le_of_lt this
    have sc : Same H2 (upd (upd H2 a3 (.tup [.int 0])) c (.tup ((List.replicate (p - 1).toNat (1 : Int)).map V.int ++ [.int 0]))) := same_add s23 hc
    generalize eH3 : upd (upd H2 a3 (.tup [.int 0])) c (.tup ((List.replicate (p - 1).toNat (1 : Int)).map V.int ++ [.int 0])) = H3 at *
    have hc3 : H3 c = some (.tup ((List.replicate (p - 1).toNat (1 : Int) ++ [0]).map V.int)) := by rw [← eH3, upd_same, List.map_append]; rfl
    refine ⟨by show 2 ≤ sizeLine; decide, fun x1 hx1 => ?_⟩
    have s34 : Same H3 (upd H3 x1 (.tup [.int 1, .ref c])) := same_new hx1
    generalize eH4 : upd H3 x1 (.tup [.int 1, .ref c]) = H4 at *
    have hx4 : H4 x1 = some (.tup [.int 1, .ref c]) := by rw [← eH4]; exact upd_same
    refine ⟨by show 1 ≤ sizeLine; decide, fun a4 h4 => ?_⟩
    have s45 : Same H4 (upd H4 a4 (.tup [.int 1])) := same_new h4
    refine ⟨_, rfl, repN_one upd_same (by omega) (by omega) fun a5 H5 s5 _ h5 => ?_⟩
    refine ⟨by show 2 ≤ sizeLine; decide, fun x2 hx2 => ?_⟩
    have s6 : Same H5 (upd H5 x2 (.tup [.int 0, .ref a5])) := same_new hx2
    refine ⟨by show 2 ≤ sizeLine; decide, fun r hr0 => ?_⟩
    have s7 : Same (upd H5 x2 (.tup [.int 0, .ref a5])) (upd (upd H5 x2 (.tup [.int 0, .ref a5])) r (.lst [.ref x1, .ref x2])) := same_new hr0
    refine ⟨by show 3 ≤ sizeLine; decide, fun y hy => ?_⟩
    have s8 : Same (upd (upd H5 x2 (.tup [.int 0, .ref a5])) r (.lst [.ref x1, .ref x2])) (upd (upd (upd H5 x2 (.tup [.int 0, .ref a5])) r (.lst [.ref x1, .ref x2])) y (.tup [.int p, .ref r, .int 0])) := same_new hy
    have s58 := Same.trans s6 (Same.trans s7 s8)
    have s48 := Same.trans s45 (Same.trans s5 s58)
    have sA : Same H H2 := Same.trans (same_new h1) s2
    refine k _ y (Same.trans sA (Same.trans sc (Same.trans s34 s48))) ⟨r, [.ref x1, .ref x2], upd_same, s8 _ _ upd_same, rfl, fun i v z e1 e2 => ?_⟩
    match i, e1, e2 with
    | 0, e1, e2 =>
      obtain rfl := Option.some.inj e1
      obtain rfl := Option.some.inj e2
      exact ⟨x1, c, rfl, s48 _ _ hx4, s48 _ _ (s34 _ _ hc3)⟩
    | 1, e1, e2 =>
      obtain rfl := Option.some.inj e1
      obtain rfl := Option.some.inj e2
      exact ⟨x2, a5, rfl, s8 _ _ (s7 _ _ upd_same), s58 _ _ h5⟩
    | i + 2, e1, e2 => exact absurd e1 (by simp)
theorem scSg : FnScope ["_law_bag_here", "_law_p", "_law_m", "_law_g"] ["_law_bag_here", "_law_p"] (defScope sSg) := ⟨rfl, rfl, rfl, by decide +kernel, rfl, by decide +kernel, by decide +kernel⟩
theorem nmSg : nmB ["_law_bag_here", "_law_p", "_law_m", "_law_g"] [("_law_bag_here", 0), ("_law_p", 1), ("_law_m", 2), ("_law_g", 3)] ["_law_odometer", "_law_pull", "_law_plain", "_law_joined", "_law_undone"] (defScope sSg) = true := by decide +kernel
end

/-! led odometers are single: no total is 0 -/
theorem OkT.z {p : Int} {M : Mach} {st : Int} (h : OkT p M st) : OkZ p M st := ⟨h.pr, h.ok, h.st0, h.st1⟩
theorem odo_nx {p : Int} (hP : IsP p) (g : Int → Int) : nxG p (odoM p) g 0 = (p - 1) * g 1 + g 0 ∧ nxG p (odoM p) g 1 = p * g 1 := by
  rcases hP with rfl | rfl | rfl | rfl
  · have e0 : nxG 2 (odoM 2) g 0 = 0 + g 1 + g 0 := rfl
    have e1 : nxG 2 (odoM 2) g 1 = 0 + g 1 + g 1 := rfl
    rw [e0, e1]; exact ⟨by omega, by omega⟩
  · have e0 : nxG 3 (odoM 3) g 0 = 0 + g 1 + g 1 + g 0 := rfl
    have e1 : nxG 3 (odoM 3) g 1 = 0 + g 1 + g 1 + g 1 := rfl
    rw [e0, e1]; exact ⟨by omega, by omega⟩
  · have e0 : nxG 5 (odoM 5) g 0 = 0 + g 1 + g 1 + g 1 + g 1 + g 0 := rfl
    have e1 : nxG 5 (odoM 5) g 1 = 0 + g 1 + g 1 + g 1 + g 1 + g 1 := rfl
    rw [e0, e1]; exact ⟨by omega, by omega⟩
  · have e0 : nxG 7 (odoM 7) g 0 = 0 + g 1 + g 1 + g 1 + g 1 + g 1 + g 1 + g 0 := rfl
    have e1 : nxG 7 (odoM 7) g 1 = 0 + g 1 + g 1 + g 1 + g 1 + g 1 + g 1 + g 1 := rfl
    rw [e0, e1]; exact ⟨by omega, by omega⟩
theorem odo_it {p : Int} (hP : IsP p) : ∀ (n : Nat) (g : Int → Int), g 1 % p = 0 → itG p (odoM p) n g 0 % p = g 0 % p
  | 0, g, _ => rfl
  | n + 1, g, h => by
    obtain ⟨e0, e1⟩ := odo_nx hP g
    show itG p (odoM p) n (nxG p (odoM p) g) 0 % p = g 0 % p
    rw [odo_it hP n _ (by rw [e1, Int.mul_emod_right]), e0]
    generalize g 1 = a at h
    generalize g 0 = b
    rcases hP with rfl | rfl | rfl | rfl <;> omega
theorem tot_odo {p : Int} (hP : IsP p) (n : Nat) : totN p (odoM p) 0 n = 1 := by
  have o := odo_ok hP
  rw [tot_it hP o.ok o.st0 o.st1, odo_it hP n _ (by rcases hP with rfl | rfl | rfl | rfl <;> rfl)]
  rcases hP with rfl | rfl | rfl | rfl <;> rfl
section
variable {P : Program} {w : World} {K : PySem.W.Frag} {mg : Str → Option Value} {base : Heap} {aP : Addr} {tD : Tok} {C : Addr} {mc u : Value}
end

abbrev sNoOf : Stmt := top 31
abbrev sCoS : Stmt := top 28
/-- the number of a setting -/
def valD (p : Int) (ds : List Int) : Int := ds.foldr (fun d n => n * p + d) 0
theorem pow_pos1 {p : Int} (h : 1 ≤ p) : ∀ k : Nat, 1 ≤ p ^ k
  | 0 => by rw [Int.pow_zero]; decide
  | k + 1 => by
    have a := pow_pos1 h k
    rw [Int.pow_succ]
    calc (1 : Int) = 1 * 1 := rfl
      _ ≤ p ^ k * p := Int.mul_le_mul a h (by decide) (by omega)
theorem pow_up {p : Int} (h : 1 ≤ p) {i k : Nat} (hik : i ≤ k) : p ^ i ≤ p ^ k := by
  obtain ⟨j, rfl⟩ := Nat.exists_eq_add_of_le hik
  rw [Int.pow_add]
  have a := pow_pos1 h i
  have b := pow_pos1 h j
  calc p ^ i = p ^ i * 1 := (Int.mul_one _).symm
    _ ≤ p ^ i * p ^ j := Int.mul_le_mul_of_nonneg_left b (by omega)
theorem valD_in {p : Int} : ∀ {ds : List Int}, Figs p ds → 0 ≤ valD p ds ∧ valD p ds < p ^ ds.length
  | [], _ => by show (0 : Int) ≤ 0 ∧ 0 < p ^ 0; rw [Int.pow_zero]; decide
  | d :: ds, h => by
    have hd := h d List.mem_cons_self
    have ih := valD_in (p := p) (ds := ds) fun x hx => h x (List.mem_cons_of_mem _ hx)
    show 0 ≤ valD p ds * p + d ∧ valD p ds * p + d < p ^ (ds.length + 1)
    rw [Int.pow_succ]
    have hp : 0 ≤ p := by omega
    have a : 0 ≤ valD p ds * p := Int.mul_nonneg ih.1 hp
    have b : (valD p ds + 1) * p ≤ p ^ ds.length * p := Int.mul_le_mul_of_nonneg_right (by omega) hp
    rw [Int.add_mul, Int.one_mul] at b
    omega
def spCoS : Sp := fun vs H Q _ => ∃ (p : Int) (k : Nat), vs = [.int p, .int (k : Int)] ∧ IsP p ∧ p ^ k ≤ 20000 ∧ k ≤ 200 ∧ Q (.int (p ^ k)) H
section
variable {P : Program} {w : World} {K : PySem.W.Frag} {mg : Str → Option Value} {base : Heap} {aP : Addr} {tD tS : Tok}
theorem scNoOf : FnScope ["prime", "setting", "number", "figure"] ["prime", "setting"] (defScope sNoOf) := ⟨rfl, rfl, rfl, by decide +kernel, rfl, by decide +kernel, by decide +kernel⟩
theorem nmNoOf : nmB ["prime", "setting", "number", "figure"] [("prime", 0), ("setting", 1), ("number", 2), ("figure", 3)] ["check_setting", "reversed"] (defScope sNoOf) = true := by decide +kernel
theorem scCoS : FnScope ["prime", "dials", "many", "_"] ["prime", "dials"] (defScope sCoS) := ⟨rfl, rfl, rfl, by decide +kernel, rfl, by decide +kernel, by decide +kernel⟩
theorem nmCoS : nmB ["prime", "dials", "many", "_"] [("prime", 0), ("dials", 1), ("many", 2), ("_", 3)] ["range", "MOST_SETTINGS"] (defScope sCoS) = true := by decide +kernel
theorem ok_cos {f : Addr} {fd : FuncData} (F : Fun K "count_settings" "count_settings" sCoS f fd) (B : Bn mg) (hMS : mg "MOST_SETTINGS" = some (.int 20000 tS)) : FnOk P w K mg base CX0 1 f fd ["prime", "dials"] spCoS := by
  refine F.ok scCoS (fun vs H Q E h => ?_) (fun cdv A outer s H vs Q E hr h => ?_)
  · obtain ⟨p, k, rfl, _⟩ := h
    rfl
  · obtain ⟨p, k, rfl, hP, hf, hk, q⟩ := h
    obtain ⟨b1, b2, b3, b4, b5, b6, b7, b8, b9, b10, b11⟩ := B
    refine' ex_mk ?d ?_
    case d =>
      have nm := nm_of (CX := CX0) (P := P) (w := w) (K := K) (mg := mg) (base := base) (outer := outer) (H := H) (E := E) nmCoS hr
      walk_at "pss"
    have hp2 := hP.two
    refine ⟨_, rfl, _, rfl, by omega, by omega, ?_⟩
    rw [Int.toNat_natCast]
    refine for_range (lo := 0) (n := k) (fun i σ H' => H' = H ∧ ∃ v3, σ = [some (.int p), some (.int (k : Int)), some (.int (p ^ i)), v3]) ⟨rfl, none, by rw [Int.pow_zero]; rfl⟩ ?_ ?_
    · rintro i σ H' hi ⟨rfl, v3, rfl⟩
      have hle : p ^ i * p ≤ 20000 := by
        have z : p ^ (i + 1) ≤ p ^ k := pow_up (by omega) (by omega)
        rw [Int.pow_succ] at z
        omega
      refine ⟨_, rfl, _, rfl, _, _, rfl, rfl, .inr ⟨by omega, by omega⟩, ?_⟩
      refine ⟨_, rfl, _, _, rfl, rfl, _, rfl, ?_⟩
      have e : decide ((20000 : Int) < p ^ i * p) = false := decide_eq_false (by omega)
      rw [e]
      exact iteF ⟨rfl, _, by rw [Int.pow_succ]; rfl⟩
    · rintro σ H' ⟨rfl, v3, rfl⟩
      exact ⟨_, rfl, q⟩
end

abbrev sLV : Stmt := top 79
abbrev sLT : Stmt := top 80
def spLV (K : PySem.W.Frag) : Sp := fun vs H Q _ => ∃ (p : Int) (a : Addr) (ds : List Int), vs = [.int p, .ref a] ∧ 2 ≤ p ∧ p ≤ 7 ∧ SqT K H a (ds.map V.int) ∧ ds.length ≤ 200 ∧ ∀ H', Same H H' → Q (.int (valD p ds)) H'
def spLT : Sp := fun vs H Q _ => ∃ (p : Int) (k : Nat), vs = [.int p, .int (k : Int)] ∧ 2 ≤ p ∧ p ≤ 7 ∧ k ≤ 200 ∧ Q (.int (p ^ k)) H
section
variable {P : Program} {w : World} {K : PySem.W.Frag} {mg : Str → Option Value} {base : Heap}
theorem scLV : FnScope ["_law_p", "_law_row", "_law_found", "_law_x"] ["_law_p", "_law_row"] (defScope sLV) := ⟨rfl, rfl, rfl, by decide +kernel, rfl, by decide +kernel, by decide +kernel⟩
theorem nmLV : nmB ["_law_p", "_law_row", "_law_found", "_law_x"] [("_law_p", 0), ("_law_row", 1), ("_law_found", 2), ("_law_x", 3)] [] (defScope sLV) = true := by decide +kernel
theorem ok_lv {f : Addr} {fd : FuncData} (F : Fun K "_law_value" "_law_value" sLV f fd) : FnOk P w K mg base CX0 1 f fd ["_law_p", "_law_row"] (spLV K) := by
  refine F.ok scLV (fun vs H Q E h => ?_) (fun cdv A outer s H vs Q E hr h => ?_)
  · obtain ⟨p, a, ds, rfl, _⟩ := h
    rfl
  · obtain ⟨p, a, ds, rfl, p2, p7, hS, hl, k⟩ := h
    refine' ex_mk ?d ?_
    case d =>
      have nm := nm_of (CX := CX0) (P := P) (w := w) (K := K) (mg := mg) (base := base) (outer := outer) (H := H) (E := E) nmLV hr
      refine' pss_cons ?s1 (pss_cons (n_for nm PassesOwn.never (pi_tup (pe_revT ?it)) ?fg ?fb) (pss_one ?s3))
      case s1 => walk_at "ps"
      case it => walk_at "pe"
      case fg => walk_at "pg"
      case fb => walk_at "pss"
      case s3 => walk_at "ps"
    refine ⟨_, rfl, a, _, rfl, hS, fun q hq => ⟨q, rfl, ⟨_, SqT.of upd_same⟩, ?_⟩⟩
    have hq2 : upd H q (.tup (ds.map V.int).reverse) q = some (.tup (ds.map V.int).reverse) := upd_same
    refine for_tup (K := K) (a := q) (xs := (ds.map V.int).reverse) (fun i σ H' => H' = upd H q (.tup (ds.map V.int).reverse) ∧ ∃ v3, σ = [some (.int p), some (.ref a), some (.int (valD p (ds.drop (ds.length - i)))), v3]) ⟨rfl, none, by rw [Nat.sub_zero, List.drop_length]; rfl⟩ (fun i σ H' _ h => by rw [h.1]; exact SqT.of hq2) ?_ ?_
    · rintro i x σ H' hx ⟨rfl, v3, rfl⟩
      have hi := (List.getElem?_eq_some_iff.mp hx).1
      rw [List.length_reverse, List.length_map] at hi
      rw [List.getElem?_reverse (by rw [List.length_map]; exact hi), List.length_map, List.getElem?_map] at hx
      cases e : ds[ds.length - 1 - i]? with
      | none => rw [e] at hx; cases hx
      | some d =>
        rw [e] at hx
        obtain rfl := (Option.some.inj hx).symm
        have e2 : ds.drop (ds.length - (i + 1)) = d :: ds.drop (ds.length - i) := by
          rw [show ds.length - (i + 1) = ds.length - 1 - i by omega]
          have h1 := (List.getElem?_eq_some_iff.mp e)
          rw [List.drop_eq_getElem_cons h1.1, h1.2, show ds.length - 1 - i + 1 = ds.length - i by omega]
        refine ⟨_, rfl, _, rfl, _, _, rfl, rfl, .inr ⟨by omega, by omega⟩, ?_⟩
        refine ⟨_, rfl, _, _, rfl, rfl, ?_⟩
        exact ⟨rfl, _, by rw [e2]; rfl⟩
    · rintro σ H' ⟨rfl, v3, rfl⟩
      rw [List.length_reverse, List.length_map, Nat.sub_self, List.drop_zero]
      exact ⟨_, rfl, k _ (same_new hq)⟩
theorem scLT : FnScope ["_law_p", "_law_many", "_law_found", "_law_k"] ["_law_p", "_law_many"] (defScope sLT) := ⟨rfl, rfl, rfl, by decide +kernel, rfl, by decide +kernel, by decide +kernel⟩
theorem nmLT : nmB ["_law_p", "_law_many", "_law_found", "_law_k"] [("_law_p", 0), ("_law_many", 1), ("_law_found", 2), ("_law_k", 3)] ["range"] (defScope sLT) = true := by decide +kernel
theorem ok_lt {f : Addr} {fd : FuncData} (F : Fun K "_law_times" "_law_times" sLT f fd) (B : Bn mg) : FnOk P w K mg base CX0 1 f fd ["_law_p", "_law_many"] spLT := by
  refine F.ok scLT (fun vs H Q E h => ?_) (fun cdv A outer s H vs Q E hr h => ?_)
  · obtain ⟨p, k, rfl, _⟩ := h
    rfl
  · obtain ⟨p, k, rfl, p2, p7, hk, q⟩ := h
    obtain ⟨b1, b2, b3, b4, b5, b6, b7, b8, b9, b10, b11⟩ := B
    refine' ex_mk ?d ?_
    case d =>
      have nm := nm_of (CX := CX0) (P := P) (w := w) (K := K) (mg := mg) (base := base) (outer := outer) (H := H) (E := E) nmLT hr
      walk_at "pss"
    refine ⟨_, rfl, _, rfl, by omega, by omega, ?_⟩
    rw [Int.toNat_natCast]
    refine for_range (lo := 0) (n := k) (fun i σ H' => H' = H ∧ ∃ v3, σ = [some (.int p), some (.int (k : Int)), some (.int (p ^ i)), v3]) ⟨rfl, none, by rw [Int.pow_zero]; rfl⟩ ?_ ?_
    · rintro i σ H' hi ⟨rfl, v3, rfl⟩
      refine ⟨_, rfl, _, rfl, _, _, rfl, rfl, .inr ⟨by omega, by omega⟩, ?_⟩
      exact ⟨rfl, _, by rw [Int.pow_succ]; rfl⟩
    · rintro σ H' ⟨rfl, v3, rfl⟩
      exact ⟨_, rfl, q⟩
end

/-- settings that may lie in the written part -/
def spIsA (K : PySem.W.Frag) : Sp := fun vs H Q _ => ∃ p a ds, vs = [.int p, .ref a] ∧ IsP p ∧ SqT K H a (ds.map V.int) ∧ Figs p ds ∧ ds.length ≤ 200 ∧ ∀ H', Same H H' → Q (.bl true) H'
def spChA (K : PySem.W.Frag) : Sp := fun vs H Q _ => ∃ (p : Int) (a : Addr) (ds : List Int), vs = [.int p, .ref a] ∧ IsP p ∧ SqT K H a (ds.map V.int) ∧ Figs p ds ∧ ds.length ≤ 200 ∧ ∀ H', Same H H' → Q .non H'
def spNoA (K : PySem.W.Frag) : Sp := fun vs H Q _ => ∃ (p : Int) (a : Addr) (ds : List Int), vs = [.int p, .ref a] ∧ IsP p ∧ SqT K H a (ds.map V.int) ∧ Figs p ds ∧ ds.length ≤ 200 ∧ ∀ H', Same H H' → Q (.int (valD p ds)) H'
section
variable {P : Program} {w : World} {K : PySem.W.Frag} {mg : Str → Option Value} {base : Heap} {aP : Addr} {tD : Tok}
theorem ok_issA {f : Addr} {fd : FuncData} (F : Fun K "is_setting" "is_setting" sIsS f fd) (B : Bn mg) (g : Gv K mg aP tD) (D : Df P w K mg base 2 "check_prime" ["prime"] spChP) (D2 : Df P w K mg base 2 "is_below" ["value", "bound"] (spBel K)) : FnOk P w K mg base CX0 3 f fd ["prime", "value"] (spIsA K) := by
  refine F.ok scIsS (fun vs H Q E h => ?_) (fun cdv A outer s H vs Q E hr h => ?_)
  · obtain ⟨p, a, ds, rfl, _⟩ := h
    rfl
  · obtain ⟨p, a, ds, rfl, hP, ha, hF, hl, k⟩ := h
    obtain ⟨b1, b2, b3, b4, b5, b6, b7, b8, b9, b10, b11⟩ := B
    have g1 := g.dials
    refine' ex_mk ?d ?_
    case d =>
      have nm := nm_of (CX := CX0) (P := P) (w := w) (K := K) (mg := mg) (base := base) (outer := outer) (H := H) (E := E) nmIsS hr
      refine' pss_cons ?s1 (pss_cons ?s2 (pss_one (ps_ret (n_b (x := "all") nm (by walk_at "as") (cr_all nm.calm) PyProof.Rows.boot_all ?bg (pa_cons ?lc pa_nil)))))
      case s1 => walk_at "ps"
      case s2 => walk_at "ps"
      case bg => walk_at "mem"
      case lc =>
        refine' n_lc (own := [("figure", 2)]) (g := gName 2) (NS' := [("prime", 0), ("figure", 2)]) (WS' := [("figure", 2)]) (G' := ["is_below"]) (N := ["prime", "value", "figure"]) (scD := defScope sIsS) nm rfl rfl (by decide +kernel) (by decide +kernel) (pi_tup ?li) (fun X' nm2 => ?lg) (fun X' nm2 => ?le)
        case li => walk_at "pe"
        case lg => walk_at "pg"
        case le => walk_at "pe"
    refine ⟨_, rfl, p, rfl, hP, ?_⟩
    refine ⟨_, rfl, _, _, _, _, _, rfl, .ty "tuple", ty_t ha, kit_ty (by decide +kernel : kitB "tuple" "tuple" = some true), _, rfl, ?_⟩
    refine iteF ?_
    refine ⟨_, rfl, _, _, rfl, .inr (ha), _, _, rfl, rfl, _, rfl, ?_⟩
    have c : ¬ (200 : Int) < ((ds.map V.int).length : Int) := by rw [List.length_map]; omega
    rw [decide_eq_false c]
    refine iteF ?_
    refine ⟨_, rfl, a, rfl, ⟨_, ha⟩, fun Dl hD => ?_⟩
    refine lcT (fs := (List.replicate ds.length true).map V.bl) (ha) hD (by simp) (by rw [List.length_map]; exact small1000 (by omega)) ?_ ?_ (fun x => rfl)
    · intro j x y H' Qk hx hy s1 kk
      obtain ⟨d, hd, rfl⟩ : ∃ d, d ∈ ds ∧ x = V.int d := by
        rw [List.getElem?_map] at hx
        cases e : ds[j]? with
        | none => rw [e] at hx; cases hx
        | some u => rw [e] at hx; exact ⟨u, List.mem_of_getElem? e, (Option.some.inj hx).symm⟩
      have ey : y = V.bl true := by
        rw [List.getElem?_map, List.getElem?_replicate] at hy
        split at hy
        · exact (Option.some.inj hy).symm
        · cases hy
      subst ey
      refine ⟨_, rfl, _, rfl, _, _, _, rfl, kd_int d, ?_⟩
      rw [belowV_in (hF d hd)]
      exact kk _ (fun _ _ e => e)
    · intro H' s1 hDl
      refine ⟨Dl, _, rfl, SqL.of hDl, ?_⟩
      rw [all_rep]
      exact k H' s1
theorem ok_chsA {f : Addr} {fd : FuncData} (F : Fun K "check_setting" "check_setting" sChS f fd) (D : Df P w K mg base 3 "is_setting" ["prime", "value"] (spIsA K)) : FnOk P w K mg base CX0 4 f fd ["prime", "value"] (spChA K) := by
  refine F.ok scChS (fun vs H Q E h => ?_) (fun cdv A outer s H vs Q E hr h => ?_)
  · obtain ⟨p, a, ds, rfl, _⟩ := h
    rfl
  · obtain ⟨p, a, ds, rfl, hP, ha, hF, hl, k⟩ := h
    refine' ex_mk ?d ?_
    case d =>
      have nm := nm_of (CX := CX0) (P := P) (w := w) (K := K) (mg := mg) (base := base) (outer := outer) (H := H) (E := E) nmChS hr
      walk_at "pss"
    refine ⟨_, rfl, _, rfl, p, a, ds, rfl, hP, ha, hF, hl, fun H' s1 => ⟨_, rfl, ?_⟩⟩
    exact iteF (k H' s1)
theorem ok_noA {f : Addr} {fd : FuncData} (F : Fun K "number_of" "number_of" sNoOf f fd) (brev : mg "reversed" = none) (D : Df P w K mg base 4 "check_setting" ["prime", "value"] (spChA K)) :
    FnOk P w K mg base CX0 5 f fd ["prime", "setting"] (spNoA K) := by
  refine F.ok scNoOf (fun vs H Q E h => ?_) (fun cdv A outer s H vs Q E hr h => ?_)
  · obtain ⟨p, a, ds, rfl, _⟩ := h
    rfl
  · obtain ⟨p, a, ds, rfl, hP, hS, hF, hl, k⟩ := h
    refine' ex_mk ?d ?_
    case d =>
      have nm := nm_of (CX := CX0) (P := P) (w := w) (K := K) (mg := mg) (base := base) (outer := outer) (H := H) (E := E) nmNoOf hr
      refine' pss_cons ?s0 (pss_cons ?s1 (pss_cons (n_for nm PassesOwn.never (RT.pi_revA (nm.gl "reversed" (by walk_at "mem")).1 (by rw [nm.em]; exact brev) ?it) ?fg ?fb) (pss_one ?s3)))
      case s0 => walk_at "ps"
      case s1 => walk_at "ps"
      case it => walk_at "pe"
      case fg => walk_at "pg"
      case fb => walk_at "pss"
      case s3 => walk_at "ps"
    refine ⟨_, rfl, _, rfl, p, a, ds, rfl, hP, hS, hF, hl, fun H1 s1 => ?_⟩
    have hS1 := sqT_same s1 hS
    refine ⟨_, rfl, a, _, rfl, .inr ⟨hS1, ?_⟩⟩
    refine for_revT (K := K) (a := a) (xs := ds.map V.int) (fun i σ H' => H' = H1 ∧ ∃ v3, σ = [some (.int p), some (.ref a), some (.int (valD p (ds.drop (ds.length - i)))), v3]) ⟨rfl, none, by rw [Nat.sub_zero, List.drop_length]; rfl⟩ (fun i σ H' _ h => by rw [h.1]; exact hS1) ?_ ?_
    · rintro i x σ H' hi hx ⟨rfl, v3, rfl⟩
      rw [List.length_map] at hi hx
      rw [List.getElem?_map] at hx
      cases e : ds[ds.length - 1 - i]? with
      | none => rw [e] at hx; cases hx
      | some d =>
        rw [e] at hx
        obtain rfl := (Option.some.inj hx).symm
        have e2 : ds.drop (ds.length - (i + 1)) = d :: ds.drop (ds.length - i) := by
          rw [show ds.length - (i + 1) = ds.length - 1 - i by omega]
          have h1 := (List.getElem?_eq_some_iff.mp e)
          rw [List.drop_eq_getElem_cons h1.1, h1.2, show ds.length - 1 - i + 1 = ds.length - i by omega]
        have hp2 := hP.two
        refine ⟨_, rfl, _, rfl, _, _, rfl, rfl, .inr ⟨by omega, by omega⟩, ?_⟩
        refine ⟨_, rfl, _, _, rfl, rfl, ?_⟩
        exact ⟨rfl, _, by rw [e2]; rfl⟩
    · rintro σ H' ⟨rfl, v3, rfl⟩
      rw [List.length_map, Nat.sub_self, List.drop_zero]
      exact ⟨_, rfl, k H' s1⟩
end

abbrev sIsT : Stmt := top 43
abbrev sChT : Stmt := top 44
abbrev sRIn : Stmt := inClass (top 47) 0
theorem rnPT : ¬ ("_prime" : Str) = "_tables" := by decide +kernel
def rf (p : Int) (t : Addr) : List (Str × V) := putF "_tables" (.ref t) (putF "_prime" (.int p) [])
theorem rf_p (p : Int) (t : Addr) : (rf p t).lookup ("_prime" : Str) = some (.int p) := by
  unfold rf
  rw [lookup_putF, if_neg rnPT, lookup_putF, if_pos rfl]
theorem rf_t (p : Int) (t : Addr) : (rf p t).lookup ("_tables" : Str) = some (.ref t) := by
  unfold rf
  rw [lookup_putF, if_pos rfl]
theorem rf_no (p : Int) (t : Addr) {m : Str} (h1 : ¬ m = "_prime") (h2 : ¬ m = "_tables") : (rf p t).lookup m = none := by
  unfold rf
  rw [lookup_putF, if_neg h2, lookup_putF, if_neg h1]
  rfl
structure Rc (K : PySem.W.Frag) (C : Addr) : Prop where
  cl : Cls K C
  nP : NoAttr K C "_prime"
  nT : NoAttr K C "_tables"
/-- a list or a tuple -/
def LtV (H : Hp) (a : Addr) (xs : List V) : Prop := H a = some (.lst xs) ∨ H a = some (.tup xs)
theorem LtV.same {H H' : Hp} {a : Addr} {xs : List V} (h : LtV H a xs) (e : Same H H') : LtV H' a xs := h.imp (fun z => e _ _ z) fun z => e _ _ z
theorem LtV.len {K : PySem.W.Frag} {H : Hp} {a : Addr} {xs : List V} (h : LtV H a xs) : SqL K H a xs ∨ SqT K H a xs := h.imp (fun z => SqL.of z) fun z => SqT.of z
theorem isi_lt {K : PySem.W.Frag} {H : Hp} {a q : Addr} {xs : List V} {Q : VK} (h : LtV H a xs) (hq : H q = some (.tup [.ty "list", .ty "tuple"])) (k : Q (.bl true) H) : rIsiT K [.ref a, .ref q] H Q := by
  rcases h with h | h
  · exact ⟨_, q, _, _, _, _, rfl, hq, .cons (.ty "list") (.cons (.ty "tuple") .nil), ty_l (SqL.of h), kitAny_cons (kit_ty (by decide +kernel : kitB "list" "list" = some true)) (fun z => nomatch z) (fun _ => rfl), k⟩
  · exact ⟨_, q, _, _, _, _, rfl, hq, .cons (.ty "list") (.cons (.ty "tuple") .nil), ty_t (SqT.of h), kitT, k⟩
def RowsL (H : Hp) (xs : List V) (T : List (List Int)) : Prop := xs.length = T.length ∧ ∀ (i : Nat) v r, xs[i]? = some v → T[i]? = some r → ∃ a, v = .ref a ∧ LtV H a (r.map V.int)
theorem RowsL.same {H H' : Hp} {xs : List V} {T : List (List Int)} (h : RowsL H xs T) (e : Same H H') : RowsL H' xs T := ⟨h.1, fun i v r h1 h2 => by
  obtain ⟨a, e1, e2⟩ := h.2 i v r h1 h2
  exact ⟨a, e1, e2.same e⟩⟩
theorem rowsT_same {H H' : Hp} {xs : List V} {T : List (List Int)} (h : RowsT H xs T) (e : Same H H') : RowsT H' xs T := ⟨h.1, fun i v r h1 h2 => by
  obtain ⟨a, e1, e2⟩ := h.2 i v r h1 h2
  exact ⟨a, e1, e _ _ e2⟩⟩
structure OkR (p : Int) (T : List (List Int)) : Prop where
  pr : IsP p
  len : ∀ (i : Nat) r, T[i]? = some r → (r.length : Int) = p ^ i
  fig : ∀ r ∈ T, Figs p r
  le : T.length ≤ 8
  sz : ∀ r ∈ T, r.length ≤ 500
  few : p ^ T.length ≤ 20000
/-- a relabelling stands at x -/
def RelAt (C : Addr) (H : Hp) (x : Addr) (p : Int) (T : List (List Int)) : Prop := ∃ dx t xs, H x = some (.ins C dx (rf p t)) ∧ H t = some (.tup xs) ∧ RowsT H xs T
theorem RelAt.same {C : Addr} {H H' : Hp} {x : Addr} {p : Int} {T : List (List Int)} (h : RelAt C H x p T) (e : Same H H') : RelAt C H' x p T := by
  obtain ⟨dx, t, xs, h1, h2, h3⟩ := h
  exact ⟨dx, t, xs, e _ _ h1, e _ _ h2, rowsT_same h3 e⟩
theorem rowsT_keep {H H' : Hp} {b l : Addr} {xs : List V} {T : List (List Int)} (h : RowsT H xs T) (B : Bag H b l) (e : Keep b H H') : RowsT H' xs T := ⟨h.1, fun i v r h1 h2 => by
  obtain ⟨a, e1, e2⟩ := h.2 i v r h1 h2
  exact ⟨a, e1, e _ _ (B.tup e2) e2⟩⟩
theorem RelAt.keep {C : Addr} {H H' : Hp} {x b l : Addr} {p : Int} {T : List (List Int)} (h : RelAt C H x p T) (B : Bag H b l) (e : Keep b H H') : RelAt C H' x p T := by
  obtain ⟨dx, t, xs, h1, h2, h3⟩ := h
  exact ⟨dx, t, xs, e _ _ (B.insA h1) h1, e _ _ (B.tup h2) h2, rowsT_keep h3 B e⟩
def spIsT : Sp := fun vs H Q _ => ∃ (p : Int) (a : Addr) (r : List Int), vs = [.int p, .ref a, .int (r.length : Int)] ∧ LtV H a (r.map V.int) ∧ Figs p r ∧ r.length ≤ 500 ∧ ∀ H', Same H H' → Q (.bl true) H'
def spChT : Sp := fun vs H Q _ => ∃ (p : Int) (a : Addr) (xs : List V) (T : List (List Int)), vs = [.int p, .ref a] ∧ LtV H a xs ∧ RowsL H xs T ∧ OkR p T ∧ ∀ H', Same H H' → Q .non H'
def spRIn (C : Addr) : Sp := fun vs H Q _ => ∃ (x dx : Addr) (p : Int) (a : Addr) (xs : List V) (T : List (List Int)), vs = [.ref x, .int p, .ref a] ∧ H x = some (.ins C dx []) ∧ LtV H a xs ∧ RowsL H xs T ∧ OkR p T ∧
  ∀ H' t ys, (∀ c o, c ≠ x → H c = some o → H' c = some o) → H' t = some (.tup ys) → RowsT H' ys T → H' x = some (.ins C dx (rf p t)) → Q .non H'
section
variable {P : Program} {w : World} {K : PySem.W.Frag} {mg : Str → Option Value} {base : Heap} {aP : Addr} {tD : Tok} {C : Addr} {mc u : Value}
theorem scIsT : FnScope ["prime", "value", "many", "figure"] ["prime", "value", "many"] (defScope sIsT) := ⟨rfl, rfl, rfl, by decide +kernel, rfl, by decide +kernel, by decide +kernel⟩
theorem nmIsT : nmB ["prime", "value", "many", "figure"] [("prime", 0), ("value", 1), ("many", 2)] ["isinstance", "list", "tuple", "len", "all"] (defScope sIsT) = true := by decide +kernel
theorem ok_ist {f : Addr} {fd : FuncData} (F : Fun K "_is_table" "_is_table" sIsT f fd) (B : Bn mg) (D : Df P w K mg base 2 "is_below" ["value", "bound"] (spBel K)) : FnOk P w K mg base CX0 3 f fd ["prime", "value", "many"] spIsT := by
  refine F.ok scIsT (fun vs H Q E h => ?_) (fun cdv A outer s H vs Q E hr h => ?_)
  · obtain ⟨p, a, r, rfl, _⟩ := h
    rfl
  · obtain ⟨p, a, r, rfl, ha, hF, hz, k⟩ := h
    obtain ⟨b1, b2, b3, b4, b5, b6, b7, b8, b9, b10, b11⟩ := B
    refine' ex_mk ?d ?_
    case d =>
      have nm := nm_of (CX := CX0) (P := P) (w := w) (K := K) (mg := mg) (base := base) (outer := outer) (H := H) (E := E) nmIsT hr
      refine' pss_cons ?s1 (pss_one (ps_ret (n_b (x := "all") nm (by walk_at "as") (cr_all nm.calm) PyProof.Rows.boot_all ?bg (pa_cons ?lc pa_nil))))
      case s1 => walk_at "ps"
      case bg => walk_at "mem"
      case lc =>
        refine' n_lc (own := [("figure", 3)]) (g := gName 3) (NS' := [("prime", 0), ("figure", 3)]) (WS' := [("figure", 3)]) (G' := ["is_below"]) (N := ["prime", "value", "many", "figure"]) (scD := defScope sIsT) nm rfl rfl (by decide +kernel) (by decide +kernel) (pi_or (pi_list ?li) (pi_tup ?li2)) (fun X' nm2 => ?lg) (fun X' nm2 => ?le)
        case li => walk_at "pe"
        case li2 => walk_at "pe"
        case lg => walk_at "pg"
        case le => walk_at "pe"
    have hll : (r.map V.int).length = r.length := List.length_map _
    refine ⟨_, rfl, by show 2 ≤ sizeLine; decide, fun q hq => ?_⟩
    have s0 : Same H (upd H q (.tup [.ty "list", .ty "tuple"])) := same_new hq
    dsimp only [tNil]
    refine isi_lt (K := K) (ha.same s0) upd_same ?_
    refine ⟨_, rfl, ?_⟩
    refine iteF ?_
    generalize upd H q (.tup [.ty "list", .ty "tuple"]) = H0 at s0 ⊢
    have h0 := ha.same s0
    refine ⟨_, rfl, a, _, rfl, h0.len, _, rfl, rfl, _, rfl, ?_⟩
    have lenne : decide (V.int ((r.map V.int).length : Int) = V.int (r.length : Int)) = true := decide_eq_true (by rw [hll])
    rw [lenne]
    refine iteF ?_
    rcases h0 with h0 | h0
    · refine .inl ⟨_, rfl, a, rfl, ⟨_, SqL.of h0⟩, fun Dl hD => ?_⟩
      refine lc_seq (fs := (List.replicate r.length true).map V.bl) (sj_L (K := K) fun H1 s1 => SqL.of (s1 _ _ h0)) hD (by simp) (small1000 (by rw [hll]; omega)) ?_ ?_ gm_name
      · intro j x' z H1 Qk hx hz' s1 kk
        rw [List.getElem?_map] at hx
        cases e : r[j]? with
        | none => rw [e] at hx; cases hx
        | some d =>
          rw [e] at hx
          obtain rfl := (Option.some.inj hx).symm
          rw [List.getElem?_map, List.getElem?_replicate] at hz'
          split at hz'
          · obtain rfl := (Option.some.inj hz').symm
            refine ⟨rfl, _, rfl, _, rfl, _, _, _, rfl, kd_int d, ?_⟩
            rw [belowV_in (hF d (List.mem_of_getElem? e))]
            exact kk _ (fun _ _ e => e)
          · cases hz'
      · intro H' s1 hDl
        refine ⟨Dl, _, rfl, SqL.of hDl, ?_⟩
        rw [all_rep]
        exact k H' (Same.trans s0 s1)
    · refine .inr ⟨_, rfl, a, rfl, ⟨_, SqT.of h0⟩, fun Dl hD => ?_⟩
      refine lc_seq (fs := (List.replicate r.length true).map V.bl) (sj_T (K := K) fun H1 s1 => SqT.of (s1 _ _ h0)) hD (by simp) (small1000 (by rw [hll]; omega)) ?_ ?_ gm_name
      · intro j x' z H1 Qk hx hz' s1 kk
        rw [List.getElem?_map] at hx
        cases e : r[j]? with
        | none => rw [e] at hx; cases hx
        | some d =>
          rw [e] at hx
          obtain rfl := (Option.some.inj hx).symm
          rw [List.getElem?_map, List.getElem?_replicate] at hz'
          split at hz'
          · obtain rfl := (Option.some.inj hz').symm
            refine ⟨rfl, _, rfl, _, rfl, _, _, _, rfl, kd_int d, ?_⟩
            rw [belowV_in (hF d (List.mem_of_getElem? e))]
            exact kk _ (fun _ _ e => e)
          · cases hz'
      · intro H' s1 hDl
        refine ⟨Dl, _, rfl, SqL.of hDl, ?_⟩
        rw [all_rep]
        exact k H' (Same.trans s0 s1)
theorem scChT : FnScope ["prime", "tables", "dial", "table"] ["prime", "tables"] (defScope sChT) := ⟨rfl, rfl, rfl, by decide +kernel, rfl, by decide +kernel, by decide +kernel⟩
theorem nmChT : nmB ["prime", "tables", "dial", "table"] [("prime", 0), ("tables", 1), ("dial", 2), ("table", 3)] ["isinstance", "list", "tuple", "len", "enumerate", "count_settings", "_is_table"] (defScope sChT) = true := by decide +kernel
theorem ok_cht {f : Addr} {fd : FuncData} (F : Fun K "_check_tables" "_check_tables" sChT f fd) (B : Bn mg) (D1 : Df P w K mg base 1 "count_settings" ["prime", "dials"] spCoS) (D2 : Df P w K mg base 3 "_is_table" ["prime", "value", "many"] spIsT) : FnOk P w K mg base CX0 4 f fd ["prime", "tables"] spChT := by
  refine F.ok scChT (fun vs H Q E h => ?_) (fun cdv A outer s H vs Q E hr h => ?_)
  · obtain ⟨p, a, xs, T, rfl, _⟩ := h
    rfl
  · obtain ⟨p, a, xs, T, rfl, ha, hR, hO, k⟩ := h
    obtain ⟨b1, b2, b3, b4, b5, b6, b7, b8, b9, b10, b11⟩ := B
    refine' ex_mk ?d ?_
    case d =>
      have nm := nm_of (CX := CX0) (P := P) (w := w) (K := K) (mg := mg) (base := base) (outer := outer) (H := H) (E := E) nmChT hr
      refine' pss_cons ?s1 (pss_cons ?s2 (pss_one (n_for nm PassesOwn.never (pi_or (n_enum nm b10 ?g1 (pa_cons ?e1 pa_nil)) (n_enumT nm b10 ?g2 (pa_cons ?e2 pa_nil))) ?fg ?body)))
      case s1 => walk_at "ps"
      case s2 => walk_at "ps"
      case g1 => walk_at "mem"
      case e1 => walk_at "pe"
      case g2 => walk_at "mem"
      case e2 => walk_at "pe"
      case fg => walk_at "pg"
      case body => walk_at "pss"
    have hx : xs.length = T.length := hR.1
    have hle := hO.le
    refine ⟨_, rfl, by show 2 ≤ sizeLine; decide, fun q hq => ?_⟩
    have s0 : Same H (upd H q (.tup [.ty "list", .ty "tuple"])) := same_new hq
    dsimp only [tNil]
    refine isi_lt (K := K) (ha.same s0) upd_same ?_
    refine ⟨_, rfl, ?_⟩
    refine iteF ?_
    generalize upd H q (.tup [.ty "list", .ty "tuple"]) = H0 at s0 ⊢
    have h0 := ha.same s0
    have hR0 := hR.same s0
    refine ⟨_, rfl, _, rfl, _, _, rfl, h0.len, p, T.length, by rw [hx], hO.pr, hO.few, by omega, ?_⟩
    rcases h0 with h0 | h0
    · refine .inl ⟨_, rfl, a, xs, rfl, SqL.of h0, ?_⟩
      refine for_en (en_L (K := K) (S := fun H' => Same H0 H') fun H' e => SqL.of (e _ _ h0)) (fun i σ H' => ∃ v1 v2, σ = [some (.int p), some (.ref a), v1, v2] ∧ Same H0 H') ⟨none, none, rfl, fun _ _ e => e⟩ (fun i σ H' ⟨_, _, _, e⟩ => e) ?_ ?_
      · rintro i x TT σ H' hxi ⟨v1, v2, rfl, s2⟩ hT
        have hi : i < T.length := by rw [← hx]; exact (List.getElem?_eq_some_iff.mp hxi).1
        have hTi : T[i]? = some T[i] := List.getElem?_eq_getElem hi
        have hmem : T[i] ∈ T := List.getElem_mem hi
        have s3 : Same H0 (upd H' TT (.tup [.int (i : Nat), x])) := same_add s2 hT
        obtain ⟨r, rfl, hr'⟩ := hR0.2 i x _ hxi hTi
        have hp2 := hO.pr.two
        refine ⟨TT, _, rfl, SqT.of upd_same, rfl, _, _, rfl, _, _, rfl, rfl, ?_⟩
        refine ⟨_, rfl, _, rfl, _, rfl, _, rfl, p, i, rfl, hO.pr, Int.le_trans (pow_up (by omega) (Nat.le_of_lt hi)) hO.few, by omega, ?_⟩
        refine ⟨p, r, T[i], by rw [hO.len i _ hTi], hr'.same s3, hO.fig _ hmem, hO.sz _ hmem, fun H2 s4 => ⟨_, rfl, ?_⟩⟩
        exact iteF ⟨_, _, rfl, Same.trans s3 s4⟩
      · rintro σ H' ⟨v1, v2, rfl, s2⟩
        exact k H' (Same.trans s0 s2)
    · refine .inr ⟨_, rfl, a, xs, rfl, SqT.of h0, ?_⟩
      refine for_en (en_T (K := K) (S := fun H' => Same H0 H') fun H' e => SqT.of (e _ _ h0)) (fun i σ H' => ∃ v1 v2, σ = [some (.int p), some (.ref a), v1, v2] ∧ Same H0 H') ⟨none, none, rfl, fun _ _ e => e⟩ (fun i σ H' ⟨_, _, _, e⟩ => e) ?_ ?_
      · rintro i x TT σ H' hxi ⟨v1, v2, rfl, s2⟩ hT
        have hi : i < T.length := by rw [← hx]; exact (List.getElem?_eq_some_iff.mp hxi).1
        have hTi : T[i]? = some T[i] := List.getElem?_eq_getElem hi
        have hmem : T[i] ∈ T := List.getElem_mem hi
        have s3 : Same H0 (upd H' TT (.tup [.int (i : Nat), x])) := same_add s2 hT
        obtain ⟨r, rfl, hr'⟩ := hR0.2 i x _ hxi hTi
        have hp2 := hO.pr.two
        refine ⟨TT, _, rfl, SqT.of upd_same, rfl, _, _, rfl, _, _, rfl, rfl, ?_⟩
        refine ⟨_, rfl, _, rfl, _, rfl, _, rfl, p, i, rfl, hO.pr, Int.le_trans (pow_up (by omega) (Nat.le_of_lt hi)) hO.few, by omega, ?_⟩
        refine ⟨p, r, T[i], by rw [hO.len i _ hTi], hr'.same s3, hO.fig _ hmem, hO.sz _ hmem, fun H2 s4 => ⟨_, rfl, ?_⟩⟩
        exact iteF ⟨_, _, rfl, Same.trans s3 s4⟩
      · rintro σ H' ⟨v1, v2, rfl, s2⟩
        exact k H' (Same.trans s0 s2)
theorem scRIn : FnScope ["self", "prime", "tables", "table"] ["self", "prime", "tables"] (defScope sRIn) := ⟨rfl, rfl, rfl, by decide +kernel, rfl, by decide +kernel, by decide +kernel⟩
theorem nmRIn : nmB ["self", "prime", "tables", "table"] [("self", 0), ("prime", 1), ("tables", 2)] ["check_prime", "_check_tables", "tuple"] (defScope sRIn) = true := by decide +kernel
theorem ok_rin {f : Addr} {fd : FuncData} (F : Fun K "__init__" "Relabelling.__init__" sRIn f fd) (B : Bn mg) (T' : Rc K C) (D1 : Df P w K mg base 2 "check_prime" ["prime"] spChP) (D2 : Df P w K mg base 4 "_check_tables" ["prime", "tables"] spChT) : FnOk P w K mg base CX0 5 f fd ["self", "prime", "tables"] (spRIn C) := by
  refine F.ok scRIn (fun vs H Q E h => ?_) (fun cdv A outer s H vs Q E hr h => ?_)
  · obtain ⟨x, dx, p, a, xs, T, rfl, _⟩ := h
    rfl
  · obtain ⟨x, dx, p, a, xs, T, rfl, hx, ha, hR, hO, k⟩ := h
    obtain ⟨b1, b2, b3, b4, b5, b6, b7, b8, b9, b10, b11⟩ := B
    refine' ex_mk ?d ?_
    case d =>
      have nm := nm_of (CX := CX0) (P := P) (w := w) (K := K) (mg := mg) (base := base) (outer := outer) (H := H) (E := E) nmRIn hr
      refine' pss_cons ?s1 (pss_cons ?s2 (pss_cons ?s3 (pss_one (ps_fld ?fo (n_t (x := "tuple") nm b5 call_tuple_of PyProof.Rows.boot_tuple ?bg (pa_cons ?lc pa_nil)) (by rfl)))))
      case s1 => walk_at "ps"
      case s2 => walk_at "ps"
      case s3 => walk_at "ps"
      case fo => walk_at "pe"
      case bg => walk_at "mem"
      case lc =>
        refine' n_lc (own := [("table", 3)]) (g := gName 3) (NS' := [("table", 3)]) (WS' := [("table", 3)]) (G' := ["tuple"]) (N := ["self", "prime", "tables", "table"]) (scD := defScope sRIn) nm rfl rfl (by decide +kernel) (by decide +kernel) (pi_or (pi_list ?li) (pi_tup ?li2)) (fun X' nm2 => ?lg) (fun X' nm2 => ?le)
        case li => walk_at "pe"
        case li2 => walk_at "pe"
        case lg => walk_at "pg"
        case le =>
          refine' n_tupC nm2 b5 ?bg2 (pa_cons ?ba2 pa_nil)
          case bg2 => walk_at "mem"
          case ba2 => walk_at "pe"
    have hxl : xs.length = T.length := hR.1
    have hle := hO.le
    refine ⟨_, rfl, p, rfl, hO.pr, ?_⟩
    refine ⟨_, rfl, _, rfl, p, a, xs, T, rfl, ha, hR, hO, fun H1 s1 => ?_⟩
    refine ⟨_, rfl, _, rfl, x, C, dx, [], rfl, s1 _ _ hx, T'.cl, T'.nP, by show 0 < 1000; decide, ?_⟩
    have nax : ∀ {c : Addr} {ys : List V}, LtV H c ys → c ≠ x := fun h => by
      rcases h with h | h
      · exact ne_of h hx (by intro q; cases q)
      · exact ne_of h hx (by intro q; cases q)
    generalize eH2 : upd H1 x (.ins C dx (putF "_prime" (.int p) [])) = H2
    have k2 : ∀ c o, c ≠ x → H c = some o → H2 c = some o := fun c o n e => by rw [← eH2, upd_ne n]; exact s1 _ _ e
    have hx2 : H2 x = some (.ins C dx (putF "_prime" (.int p) [])) := by rw [← eH2]; exact upd_same
    have ha2 : LtV H2 a xs := ha.imp (fun z => k2 _ _ (nax (.inl z)) z) fun z => k2 _ _ (nax (.inr z)) z
    have hR2 : RowsL H2 xs T := ⟨hR.1, fun i v r e1 e2 => by
      obtain ⟨b, e3, e4⟩ := hR.2 i v r e1 e2
      exact ⟨b, e3, e4.imp (fun z => k2 _ _ (nax (.inl z)) z) fun z => k2 _ _ (nax (.inr z)) z⟩⟩
    have fin : ∀ (Dl : Addr) (ys : List V) (H3 : Hp), Same H2 H3 → H3 Dl = some (.lst ys) → RowsT H3 ys T → ∀ t, H3 t = none → Q .non (upd (upd H3 t (.tup ys)) x (.ins C dx (rf p t))) := fun Dl ys H3 s3 hDl hRT t ht => by
      have ntx : x ≠ t := ne_of_none (s3 _ _ hx2) ht
      refine k _ t ys (fun c o n e => ?_) ?_ ?_ upd_same
      · rw [upd_ne n, upd_ne (ne_of_none (s3 _ _ (k2 c o n e)) ht)]
        exact s3 _ _ (k2 c o n e)
      · rw [upd_ne ntx.symm, upd_same]
      · refine ⟨hRT.1, fun i v r e1 e2 => ?_⟩
        obtain ⟨b, e3, e4⟩ := hRT.2 i v r e1 e2
        exact ⟨b, e3, by rw [upd_ne (ne_of e4 (s3 _ _ hx2) (by intro q; cases q)), upd_ne (ne_of_none e4 ht)]; exact e4⟩
    rcases ha2 with h0 | h0
    · refine .inl ⟨_, rfl, a, rfl, ⟨_, SqL.of h0⟩, fun Dl hD => ?_⟩
      refine lcN (K := K) (R := fun i y H => ∀ r, T[i]? = some r → ∃ b, y = .ref b ∧ b ≠ Dl ∧ H b = some (.tup (r.map V.int))) (sj_L (K := K) fun H1 s1 => SqL.of (s1 _ _ h0)) hD (small1000 (by omega)) (fun i y H H' e h r hr => (h r hr).imp fun b z => ⟨z.1, z.2.1, e _ _ z.2.2⟩) (fun i y H zs h r hr => (h r hr).imp fun b z => ⟨z.1, z.2.1, by rw [upd_ne z.2.1]; exact z.2.2⟩) ?_ ?_ gm_name
      · intro j v H3 Qk hv s3 ⟨zs, hDl⟩ kk
        have hi : j < T.length := by rw [← hxl]; exact (List.getElem?_eq_some_iff.mp hv).1
        obtain ⟨b, rfl, hb⟩ := hR2.2 j v _ hv (List.getElem?_eq_getElem hi)
        refine ⟨rfl, _, rfl, b, (T[j]'hi).map V.int, rfl, ?_⟩
        rcases hb with hb | hb
        · exact .inl ⟨SqL.of (s3 _ _ hb), fun t ht => kk _ _ (same_new ht) fun r hr => ⟨t, rfl, (ne_of_none hDl ht).symm, by rw [List.getElem?_eq_getElem hi] at hr; rw [← Option.some.inj hr]; exact upd_same⟩⟩
        · exact .inr ⟨SqT.of (s3 _ _ hb), kk _ _ (fun _ _ e => e) fun r hr => ⟨b, rfl, ne_of (s3 _ _ hb) hDl (by intro q; cases q), by rw [List.getElem?_eq_getElem hi] at hr; rw [← Option.some.inj hr]; exact s3 _ _ hb⟩⟩
      · intro ys H3 s3 hDl hyl hRR
        refine ⟨Dl, _, rfl, .inl ⟨SqL.of hDl, fun t ht => ?_⟩⟩
        have ntx : x ≠ t := ne_of_none (s3 _ _ hx2) ht
        refine ⟨_, rfl, x, C, dx, _, rfl, by rw [upd_ne ntx]; exact s3 _ _ hx2, T'.cl, T'.nT, by show 1 < 1000; decide, ?_⟩
        exact fin Dl ys H3 s3 hDl ⟨by rw [hyl, hxl], fun i v r e1 e2 => (hRR i v e1 r e2).imp fun b z => ⟨z.1, z.2.2⟩⟩ t ht
    · refine .inr ⟨_, rfl, a, rfl, ⟨_, SqT.of h0⟩, fun Dl hD => ?_⟩
      refine lcN (K := K) (R := fun i y H => ∀ r, T[i]? = some r → ∃ b, y = .ref b ∧ b ≠ Dl ∧ H b = some (.tup (r.map V.int))) (sj_T (K := K) fun H1 s1 => SqT.of (s1 _ _ h0)) hD (small1000 (by omega)) (fun i y H H' e h r hr => (h r hr).imp fun b z => ⟨z.1, z.2.1, e _ _ z.2.2⟩) (fun i y H zs h r hr => (h r hr).imp fun b z => ⟨z.1, z.2.1, by rw [upd_ne z.2.1]; exact z.2.2⟩) ?_ ?_ gm_name
      · intro j v H3 Qk hv s3 ⟨zs, hDl⟩ kk
        have hi : j < T.length := by rw [← hxl]; exact (List.getElem?_eq_some_iff.mp hv).1
        obtain ⟨b, rfl, hb⟩ := hR2.2 j v _ hv (List.getElem?_eq_getElem hi)
        refine ⟨rfl, _, rfl, b, (T[j]'hi).map V.int, rfl, ?_⟩
        rcases hb with hb | hb
        · exact .inl ⟨SqL.of (s3 _ _ hb), fun t ht => kk _ _ (same_new ht) fun r hr => ⟨t, rfl, (ne_of_none hDl ht).symm, by rw [List.getElem?_eq_getElem hi] at hr; rw [← Option.some.inj hr]; exact upd_same⟩⟩
        · exact .inr ⟨SqT.of (s3 _ _ hb), kk _ _ (fun _ _ e => e) fun r hr => ⟨b, rfl, ne_of (s3 _ _ hb) hDl (by intro q; cases q), by rw [List.getElem?_eq_getElem hi] at hr; rw [← Option.some.inj hr]; exact s3 _ _ hb⟩⟩
      · intro ys H3 s3 hDl hyl hRR
        refine ⟨Dl, _, rfl, .inl ⟨SqL.of hDl, fun t ht => ?_⟩⟩
        have ntx : x ≠ t := ne_of_none (s3 _ _ hx2) ht
        refine ⟨_, rfl, x, C, dx, _, rfl, by rw [upd_ne ntx]; exact s3 _ _ hx2, T'.cl, T'.nT, by show 1 < 1000; decide, ?_⟩
        exact fin Dl ys H3 s3 hDl ⟨by rw [hyl, hxl], fun i v r e1 e2 => (hRR i v e1 r e2).imp fun b z => ⟨z.1, z.2.2⟩⟩ t ht
end

structure OkB (p : Int) (T : List (List Int)) : Prop where
  pr : IsP p
  len : ∀ (i : Nat) r, T[i]? = some r → (r.length : Int) = p ^ i
  fig : ∀ r ∈ T, Figs p r
  few : p ^ T.length ≤ 20000
  le : T.length ≤ 200
theorem OkR.b {p : Int} {T : List (List Int)} (h : OkR p T) : OkB p T := ⟨h.pr, h.len, h.fig, h.few, by have := h.le; omega⟩

abbrev sRDi : Stmt := inClass (top 47) 3
abbrev sRTb : Stmt := inClass (top 47) 4
abbrev sREq : Stmt := inClass (top 47) 9
theorem int_of' {ds : List Int} {i : Nat} {x : V} (h : (ds.map V.int)[i]? = some x) : ∃ d, ds[i]? = some d ∧ x = V.int d := by
  rw [List.getElem?_map] at h
  cases e : ds[i]? with
  | none => rw [e] at h; cases h
  | some u => rw [e] at h; exact ⟨u, rfl, (Option.some.inj h).symm⟩
/-- the turns of a relabelling on a setting, what it does -/
def trn (p : Int) (T : List (List Int)) (ds : List Int) : List Int := (List.range T.length).map fun k => (T.getD k []).getD (valD p (ds.take k)).toNat 0
def namM (p : Int) (T : List (List Int)) (ds : List Int) : List Int := List.zipWith (fun d t => (d + t) % p) ds (trn p T ds)
theorem trn_len (p : Int) (T : List (List Int)) (ds : List Int) : (trn p T ds).length = T.length := by unfold trn; rw [List.length_map, List.length_range]
theorem trn_at {p : Int} {T : List (List Int)} {ds : List Int} {j : Nat} {t : Int} (h : (trn p T ds)[j]? = some t) : j < T.length ∧ t = (T.getD j []).getD (valD p (ds.take j)).toNat 0 := by
  unfold trn at h
  rw [List.getElem?_map] at h
  by_cases c : j < T.length
  · rw [List.getElem?_range c] at h
    exact ⟨c, (Option.some.inj h).symm⟩
  · rw [List.getElem?_eq_none (by rw [List.length_range]; omega)] at h
    cases h
theorem figs_takeR {p : Int} {ds : List Int} (h : Figs p ds) (k : Nat) : Figs p (ds.take k) := fun d hd => h d (List.mem_of_mem_take hd)
/-- the figure of a table at the settings below -/
theorem tab_at {p : Int} {T : List (List Int)} {ds : List Int} {j : Nat} {r : List Int} (hO : OkR p T) (hF : Figs p ds) (hl : ds.length = T.length) (hr : T[j]? = some r) : atI (r.map V.int) (valD p (ds.take j)) = some (V.int ((T.getD j []).getD (valD p (ds.take j)).toNat 0)) := by
  have hj : j < T.length := (List.getElem?_eq_some_iff.mp hr).1
  have b := valD_in (figs_takeR hF j)
  rw [List.length_take, Nat.min_eq_left (by omega), ← hO.len j r hr] at b
  refine at_of (j := (valD p (ds.take j)).toNat) (by omega) ?_
  have e : T.getD j [] = r := by rw [List.getD_eq_getElem?_getD, hr]; rfl
  rw [e, List.getElem?_map, List.getD_eq_getElem?_getD, List.getElem?_eq_getElem (by omega)]
  rfl
def spRDi (C : Addr) : Sp := fun vs H Q _ => ∃ (x : Addr) (p : Int) (T : List (List Int)), vs = [.ref x] ∧ RelAt C H x p T ∧ Q (.int (T.length : Int)) H
def spRTb (C : Addr) : Sp := fun vs H Q _ => ∃ (x : Addr) (p : Int) (T : List (List Int)), vs = [.ref x] ∧ RelAt C H x p T ∧ OkR p T ∧ ∀ H' r ys, Same H H' → H r = none → H' r = some (.lst ys) → RowsLi H' ys T → (∀ b, V.ref b ∈ ys → H b = none ∧ b ≠ r) → Q (.ref r) H'
/-- the class's facts for isinstance -/
structure Ri (K : PySem.W.Frag) (C : Addr) : Prop where
  ha : PySem.W.findIn K (.ref C) "__class__" = some (some (.builtin "object.__class__"))
  hn : PySem.W.specialIn K (.builtin "object.__class__") "__get__" = some (some (.builtin "getset_descriptor.__get__"))
  htk : PySem.W.takesIn K (.builtin "object.__class__") = some true
  hm : PySem.W.mroIn K C (.type "object") = some true
def spREq (K : PySem.W.Frag) (C : Addr) : Sp := fun vs H Q _ => (∃ (x y : Addr) (p q : Int) (T U : List (List Int)), vs = [.ref x, .ref y] ∧ RelAt C H x p T ∧ RelAt C H y q U ∧ Q (.bl (decide (p = q) && decide (T = U))) H) ∨
  ∃ (x : Addr) (y : V) (t : Value) (p : Int) (T : List (List Int)), vs = [.ref x, y] ∧ RelAt C H x p T ∧ TyX K H y t ∧ PySem.W.kitOne K t (.ref C) = some false ∧ Q (.bl false) H
open TL
theorem kitOwn (K : PySem.W.Frag) (C : Addr) : PySem.W.kitOne K (.ref C) (.ref C) = some true := by
  unfold PySem.W.kitOne
  simp
section
variable {P : Program} {w : World} {K : PySem.W.Frag} {mg : Str → Option Value} {base : Heap} {aP : Addr} {tD : Tok} {C : Addr} {mc u : Value}
theorem scRDi : FnScope ["self"] ["self"] (defScope sRDi) := ⟨rfl, rfl, rfl, by decide +kernel, rfl, by decide +kernel, by decide +kernel⟩
theorem nmRDi : nmB ["self"] [("self", 0)] ["len"] (defScope sRDi) = true := by decide +kernel
theorem ok_rdi {f : Addr} {fd : FuncData} (F : Fun K "dials" "Relabelling.dials" sRDi f fd) (B : Bn mg) (T' : Rc K C) : FnOk P w K mg base CX0 1 f fd ["self"] (spRDi C) := by
  refine F.ok scRDi (fun vs H Q E h => ?_) (fun cdv A outer s H vs Q E hr h => ?_)
  · obtain ⟨x, p, T, rfl, _⟩ := h
    rfl
  · obtain ⟨x, p, T, rfl, ⟨dx, t, xs, h1, h2, h3⟩, k⟩ := h
    obtain ⟨b1, b2, b3, b4, b5, b6, b7, b8, b9, b10, b11⟩ := B
    refine' ex_mk ?d ?_
    case d =>
      have nm := nm_of (CX := CX0) (P := P) (w := w) (K := K) (mg := mg) (base := base) (outer := outer) (H := H) (E := E) nmRDi hr
      walk_at "pss"
    rw [← h3.1] at k
    exact ⟨_, rfl, x, C, dx, _, _, rfl, h1, T'.cl, T'.nT, rf_t _ _, t, _, rfl, .inr (SqT.of h2), k⟩
theorem scRTb : FnScope ["self", "table"] ["self"] (defScope sRTb) := ⟨rfl, rfl, rfl, by decide +kernel, rfl, by decide +kernel, by decide +kernel⟩
theorem nmRTb : nmB ["self", "table"] [("self", 0)] [] (defScope sRTb) = true := by decide +kernel
theorem ok_rtb {f : Addr} {fd : FuncData} (F : Fun K "tables" "Relabelling.tables" sRTb f fd) (B : Bn mg) (T' : Rc K C) : FnOk P w K mg base CX0 1 f fd ["self"] (spRTb C) := by
  refine F.ok scRTb (fun vs H Q E h => ?_) (fun cdv A outer s H vs Q E hr h => ?_)
  · obtain ⟨x, p, T, rfl, _⟩ := h
    rfl
  · obtain ⟨x, p, T, rfl, ⟨dx, t, xs, h1, h2, h3⟩, hO, k⟩ := h
    obtain ⟨b1, b2, b3, b4, b5, b6, b7, b8, b9, b10, b11⟩ := B
    refine' ex_mk ?d ?_
    case d =>
      have nm := nm_of (CX := CX0) (P := P) (w := w) (K := K) (mg := mg) (base := base) (outer := outer) (H := H) (E := E) nmRTb hr
      refine' pss_one (ps_ret (n_lc (own := [("table", 1)]) (g := gName 1) (NS' := [("table", 1)]) (WS' := [("table", 1)]) (G' := ["list"]) (N := ["self", "table"]) (scD := defScope sRTb) nm rfl rfl (by decide +kernel) (by decide +kernel) (pi_tup ?li) (fun X' nm2 => ?lg) (fun X' nm2 => n_lisC nm2 b4 ?bg (pa_cons ?ba pa_nil))))
      case li => walk_at "pe"
      case lg => walk_at "pg"
      case bg => walk_at "mem"
      case ba => walk_at "pe"
    have hle := hO.le
    have hxl : xs.length = T.length := h3.1
    refine ⟨_, rfl, x, C, dx, _, _, rfl, h1, T'.cl, T'.nT, rf_t _ _, t, rfl, ⟨_, SqT.of h2⟩, fun Dl hD => ?_⟩
    refine lcN (K := K) (R := fun i y H2 => ∀ r, T[i]? = some r → ∃ b, y = .ref b ∧ b ≠ Dl ∧ H b = none ∧ H2 b = some (.lst (r.map V.int))) (sj_T (K := K) fun H1 s1 => SqT.of (s1 _ _ h2)) hD (small1000 (by omega)) (fun i y H1 H' e h r hr => (h r hr).imp fun b z => ⟨z.1, z.2.1, z.2.2.1, e _ _ z.2.2.2⟩) (fun i y H1 zs h r hr => (h r hr).imp fun b z => ⟨z.1, z.2.1, z.2.2.1, by rw [upd_ne z.2.1]; exact z.2.2.2⟩) ?_ ?_ gm_name
    · intro j v H3 Qk hv s3 ⟨zs, hDl⟩ kk
      have hi : j < T.length := by rw [← hxl]; exact (List.getElem?_eq_some_iff.mp hv).1
      obtain ⟨b, rfl, hb⟩ := h3.2 j v _ hv (List.getElem?_eq_getElem hi)
      refine ⟨rfl, _, rfl, b, (T[j]'hi).map V.int, rfl, .inr (SqT.of (s3 _ _ hb)), fun l hl => ?_⟩
      exact kk _ _ (same_new hl) fun r hr => ⟨l, rfl, (ne_of_none hDl hl).symm, Same.free s3 hl, by rw [List.getElem?_eq_getElem hi] at hr; rw [← Option.some.inj hr]; exact upd_same⟩
    · intro ys H3 s3 hDl hyl hRR
      refine k H3 Dl ys s3 hD hDl ⟨by rw [hyl, hxl], fun i v r e1 e2 => (hRR i v e1 r e2).imp fun b z => ⟨z.1, z.2.2.2⟩⟩ fun b hb => ?_
      obtain ⟨i, hi⟩ := List.getElem?_of_mem hb
      have hiT : i < T.length := by rw [← hxl, ← hyl]; exact (List.getElem?_eq_some_iff.mp hi).1
      obtain ⟨c, e1, e2, e3, _⟩ := hRR i _ hi _ (List.getElem?_eq_getElem hiT)
      injection e1 with e1
      rw [e1]
      exact ⟨e3, e2⟩
end

abbrev sLNm : Stmt := top 86
theorem pow_few {p : Int} {i : Nat} (h : IsP p) (hi : (i : Int) < fewM p) : p ^ i ≤ 128 := by
  have hk : ∀ m : Nat, i ≤ m → p ^ m ≤ 128 → p ^ i ≤ 128 := fun m a b => Int.le_trans (pow_up (by rcases h with rfl | rfl | rfl | rfl <;> decide) a) b
  rcases h with rfl | rfl | rfl | rfl
  · exact hk 7 (by have : fewM 2 = 8 := rfl; omega) (by decide)
  · exact hk 4 (by have : fewM 3 = 5 := rfl; omega) (by decide)
  · exact hk 2 (by have : fewM 5 = 3 := rfl; omega) (by decide)
  · exact hk 2 (by have : fewM 7 = 3 := rfl; omega) (by decide)
theorem few_le {p : Int} (h : IsP p) : 0 < fewM p ∧ fewM p ≤ 8 := by
  rcases h with rfl | rfl | rfl | rfl <;> decide
def spLNm : Sp := fun vs H Q _ => ∃ (p : Int) (r a : Addr) (ys : List V) (T : List (List Int)) (ds : List Int), vs = [.int p, .ref r, .ref a] ∧ OkR p T ∧ H r = some (.lst ys) ∧ RowsLi H ys T ∧ H a = some (.tup (ds.map V.int)) ∧ Figs p ds ∧ ds.length = T.length ∧
  ∀ H' t, Same H H' → H t = none → H' t = some (.tup ((namM p T ds).map V.int)) → Q (.ref t) H'
section
variable {P : Program} {w : World} {K : PySem.W.Frag} {mg : Str → Option Value} {base : Heap}
theorem scLNm : FnScope ["_law_p", "_law_some", "_law_row", "_law_k"] ["_law_p", "_law_some", "_law_row"] (defScope sLNm) := ⟨rfl, rfl, rfl, by decide +kernel, rfl, by decide +kernel, by decide +kernel⟩
theorem nmLNm : nmB ["_law_p", "_law_some", "_law_row", "_law_k"] [("_law_p", 0), ("_law_some", 1), ("_law_row", 2)] ["tuple", "range", "len"] (defScope sLNm) = true := by decide +kernel
theorem ok_lnm {f : Addr} {fd : FuncData} (F : Fun K "_law_named" "_law_named" sLNm f fd) (B : Bn mg) (D : Df P w K mg base 1 "_law_value" ["_law_p", "_law_row"] (spLV K)) : FnOk P w K mg base CX0 2 f fd ["_law_p", "_law_some", "_law_row"] spLNm := by
  refine F.ok scLNm (fun vs H Q E h => ?_) (fun cdv A outer s H vs Q E hr h => ?_)
  · obtain ⟨p, r, a, ys, T, ds, rfl, _⟩ := h
    rfl
  · obtain ⟨p, r, a, ys, T, ds, rfl, hO, hr1, hR, ha, hF, hl, q⟩ := h
    obtain ⟨b1, b2, b3, b4, b5, b6, b7, b8, b9, b10, b11⟩ := B
    refine' ex_mk ?d ?_
    case d =>
      have nm := nm_of (CX := CX0) (P := P) (w := w) (K := K) (mg := mg) (base := base) (outer := outer) (H := H) (E := E) nmLNm hr
      refine' pss_one (ps_ret (n_t (x := "tuple") nm b5 call_tuple_of PyProof.Rows.boot_tuple ?bg (pa_cons ?lc pa_nil)))
      case bg => walk_at "mem"
      case lc =>
        refine' n_lc (own := [("_law_k", 3)]) (g := gName 3) (NS' := [("_law_p", 0), ("_law_some", 1), ("_law_row", 2), ("_law_k", 3)]) (WS' := [("_law_k", 3)]) (G' := ["int", "_law_value"]) (N := ["_law_p", "_law_some", "_law_row", "_law_k"]) (scD := defScope sLNm) nm rfl rfl (by decide +kernel) (by decide +kernel) ?li (fun X' nm2 => ?lg) (fun X' nm2 => pe_op op_mod (n_t (x := "int") nm2 b2 call_int1 PyProof.Rows.boot_int ?gi (pa_cons (pe_op op_add (n_ixT nm2 ?r1 ?r2 (fun _ _ => rfl)) (n_ixL nm2 (n_ixL nm2 ?s1 ?s2 (fun _ _ => rfl)) (n_d nm2 D (by decide) ?gv (pa_cons ?v1 (pa_cons (n_slA nm2 ?w1 po_none (po_some ?w2)) pa_nil))) (fun _ _ => rfl))) pa_nil)) ?pp)
        case li => walk_at "pi"
        case lg => walk_at "pg"
        case gi => walk_at "mem"
        case r1 => walk_at "pe"
        case r2 => walk_at "pe"
        case s1 => walk_at "pe"
        case s2 => walk_at "pe"
        case gv => walk_at "mem"
        case v1 => walk_at "pe"
        case w1 => walk_at "pe"
        case w2 => walk_at "pe"
        case pp => walk_at "pe"
    have hP := hO.pr
    have hp2 := hP.two
    have hle := hO.le
    have hll : (ds.map V.int).length = ds.length := List.length_map _
    refine ⟨_, rfl, _, _, rfl, .inr (SqT.of ha), ((ds.length : Nat) : Int), by rw [hll], by omega, by omega, fun Dl hD => ?_⟩
    rw [Int.toNat_natCast]
    have hnl : ((namM p T ds).map V.int).length = ds.length := by rw [List.length_map]; unfold namM; rw [List.length_zipWith, trn_len, hl, Nat.min_self]
    refine lcR (fs := (namM p T ds).map V.int) hD hnl (small1000 (by omega)) ?_ ?_ (fun x => rfl)
    · intro j y H' Qk hy s1 kk
      obtain ⟨v, hv, rfl⟩ := int_of' hy
      unfold namM at hv
      rw [List.getElem?_zipWith] at hv
      have hj : j < T.length := by
        have z := (List.getElem?_eq_some_iff.mp hy).1
        rw [hnl] at z
        omega
      have hd : ds[j]? = some (ds[j]'(by omega)) := List.getElem?_eq_getElem _
      have ht : (trn p T ds)[j]? = some ((trn p T ds)[j]'(by rw [trn_len]; exact hj)) := List.getElem?_eq_getElem _
      rw [hd, ht] at hv
      obtain ⟨_, et⟩ := trn_at ht
      rw [et] at hv
      obtain rfl := (Option.some.inj hv).symm
      have hTj : T[j]? = some (T[j]'hj) := List.getElem?_eq_getElem hj
      have hyj : ys[j]? = some (ys[j]'(by rw [hR.1]; exact hj)) := List.getElem?_eq_getElem _
      obtain ⟨c, ec, hc⟩ := hR.2 j _ _ hyj hTj
      rw [ec] at hyj
      rw [Int.zero_add]
      have eat : atI (ds.map V.int) (j : Int) = some (V.int (ds[j]'(by omega))) := at_of (j := j) rfl (by rw [List.getElem?_map, hd]; rfl)
      refine ⟨_, rfl, _, rfl, a, _, (j : Int), _, rfl, rfl, SqT.of (s1 _ _ ha), eat, ?_⟩
      refine ⟨_, rfl, _, rfl, r, ys, (j : Int), _, rfl, rfl, SqL.of (s1 _ _ hr1), at_of (j := j) rfl hyj, ?_⟩
      refine ⟨_, rfl, _, rfl, _, rfl, _, rfl, sl_any (n := j) (s1 _ _ ha) fun t5 H5 s5 ht5 => ?_⟩
      rw [← List.map_take] at ht5
      refine ⟨p, t5, ds.take j, rfl, by omega, by omega, SqT.of ht5, by rw [List.length_take]; omega, fun H6 s6 => ?_⟩
      have s56 := Same.trans s5 s6
      refine ⟨c, _, _, _, rfl, rfl, SqL.of (s56 _ _ (s1 _ _ hc)), tab_at hO hF hl hTj, ?_⟩
      refine ⟨_, _, rfl, rfl, .inl ⟨_, rfl, ?_⟩⟩
      exact ⟨_, rfl, _, _, rfl, rfl, (by show (0 : Int) < p; omega), kk _ s56⟩
    · intro H2 s2 hDl
      refine ⟨Dl, _, rfl, .inl ⟨SqL.of hDl, fun t ht => ?_⟩⟩
      exact q _ t (same_add s2 ht) (Same.free s2 ht) upd_same
end

/-! ### relabellings as maps of numbers -/
def ttM (T : List (List Int)) (k j : Nat) : Int := (T.getD k []).getD j 0
def imM (q : Nat) (T : List (List Int)) : Nat → Nat → Nat
  | 0, _ => 0
  | k + 1, j => imM q T k (j % q ^ k) + ((((j / q ^ k : Nat) : Int) + ttM T k (j % q ^ k)) % (q : Int)).toNat * q ^ k
/-- numbers j + x * s -/
theorem dm_lt {s q j x : Nat} (hj : j < s) (hx : x < q) : j + x * s < s * q := by
  calc j + x * s < s + x * s := Nat.add_lt_add_right hj _
    _ = (x + 1) * s := by rw [Nat.add_mul, Nat.one_mul, Nat.add_comm]
    _ ≤ q * s := Nat.mul_le_mul_right _ hx
    _ = s * q := Nat.mul_comm _ _
theorem dm_mod {s j x : Nat} (hj : j < s) : (j + x * s) % s = j := by rw [Nat.add_mul_mod_self_right, Nat.mod_eq_of_lt hj]
theorem dm_div {s j x : Nat} (hj : j < s) : (j + x * s) / s = x := by rw [Nat.add_mul_div_right _ _ (by omega), Nat.div_eq_of_lt hj, Nat.zero_add]
theorem dm_mk {s q n : Nat} (hs : 0 < s) (h : n < s * q) : n % s < s ∧ n / s < q ∧ n = n % s + n / s * s := ⟨Nat.mod_lt _ hs, Nat.div_lt_of_lt_mul h, by rw [Nat.mul_comm]; exact (Nat.mod_add_div n s).symm⟩
theorem fig_lt {q : Nat} (hq : 0 < q) (z : Int) : (z % (q : Int)).toNat < q := by
  have a := Int.emod_nonneg z (b := (q : Int)) (by omega)
  have b := Int.emod_lt_of_pos z (b := (q : Int)) (by omega)
  omega
theorem fig_cast {q : Nat} (hq : 0 < q) (z : Int) : ((z % (q : Int)).toNat : Int) = z % (q : Int) := by
  have a := Int.emod_nonneg z (b := (q : Int)) (by omega)
  omega
section
variable {q : Nat} (hq : 0 < q)
include hq
theorem imM_lt (T : List (List Int)) : ∀ (k j : Nat), j < q ^ k → imM q T k j < q ^ k
  | 0, j, _ => by rw [Nat.pow_zero]; exact Nat.zero_lt_one
  | k + 1, j, h => by
    rw [Nat.pow_succ] at h ⊢
    exact dm_lt (imM_lt T k _ (Nat.mod_lt _ (Nat.pow_pos hq))) (fig_lt hq _)
theorem eq_mod {x y : Nat} {t : Int} (hx : x < q) (hy : y < q) (h : ((x : Int) + t) % (q : Int) = ((y : Int) + t) % (q : Int)) : x = y := by
  have z := Int.sub_emod ((x : Int) + t) ((y : Int) + t) (q : Int)
  rw [h, Int.sub_self, Int.zero_emod] at z
  obtain ⟨c, hc⟩ := Int.dvd_of_emod_eq_zero z
  rcases Int.lt_trichotomy c 0 with g | g | g
  · have : (q : Int) * c ≤ (q : Int) * (-1) := Int.mul_le_mul_of_nonneg_left (by omega) (by omega)
    omega
  · rw [g, Int.mul_zero] at hc; omega
  · have : (q : Int) * 1 ≤ (q : Int) * c := Int.mul_le_mul_of_nonneg_left (by omega) (by omega)
    omega
theorem imM_inj (T : List (List Int)) : ∀ (k a b : Nat), a < q ^ k → b < q ^ k → imM q T k a = imM q T k b → a = b
  | 0, a, b, ha, hb, _ => by rw [Nat.pow_zero] at ha hb; omega
  | k + 1, a, b, ha, hb, h => by
    have hs : 0 < q ^ k := Nat.pow_pos hq
    rw [Nat.pow_succ] at ha hb
    obtain ⟨a1, a2, a3⟩ := dm_mk hs ha
    obtain ⟨b1, b2, b3⟩ := dm_mk hs hb
    have la := imM_lt hq T k _ a1
    have lb := imM_lt hq T k _ b1
    unfold imM at h
    have m := congrArg (· % q ^ k) h
    have d := congrArg (· / q ^ k) h
    simp only [dm_mod la, dm_mod lb, dm_div la, dm_div lb] at m d
    have e1 := imM_inj T k _ _ a1 b1 m
    rw [e1] at d
    have d2 : (((a / q ^ k : Nat) : Int) + ttM T k (b % q ^ k)) % (q : Int) = (((b / q ^ k : Nat) : Int) + ttM T k (b % q ^ k)) % (q : Int) := by
      rw [← fig_cast hq, ← fig_cast hq (((b / q ^ k : Nat) : Int) + _), d]
    have e2 : a / q ^ k = b / q ^ k := eq_mod hq a2 b2 d2
    rw [a3, b3, e1, e2]
/-- U turns back what T does -/
def UndM (q n : Nat) (T U : List (List Int)) : Prop := ∀ k j, k < n → j < q ^ k → ttM U k (imM q T k j) = (-ttM T k j) % (q : Int)
theorem add_neg_mod (x t : Int) : ((x + t) % (q : Int) + (-t) % (q : Int)) % (q : Int) = x % (q : Int) := by
  rw [← Int.add_emod]
  congr 1
  omega
theorem und_im {n : Nat} {T U : List (List Int)} (h : UndM q n T U) : ∀ (k j : Nat), k ≤ n → j < q ^ k → imM q U k (imM q T k j) = j
  | 0, j, _, hj => by rw [Nat.pow_zero] at hj; show 0 = j; omega
  | k + 1, j, hk, hj => by
    have hs : 0 < q ^ k := Nat.pow_pos hq
    rw [Nat.pow_succ] at hj
    obtain ⟨a1, a2, a3⟩ := dm_mk hs hj
    have la := imM_lt hq T k _ a1
    have ih := und_im h k _ (by omega) a1
    show imM q U k (imM q T (k + 1) j % q ^ k) + ((((imM q T (k + 1) j / q ^ k : Nat) : Int) + ttM U k (imM q T (k + 1) j % q ^ k)) % (q : Int)).toNat * q ^ k = j
    have e : imM q T (k + 1) j = imM q T k (j % q ^ k) + ((((j / q ^ k : Nat) : Int) + ttM T k (j % q ^ k)) % (q : Int)).toNat * q ^ k := rfl
    rw [e, dm_mod la, dm_div la, ih, h k _ (by omega) a1, fig_cast hq, add_neg_mod hq, Int.emod_eq_of_lt (Int.natCast_nonneg _) (Int.ofNat_lt.mpr a2), Int.toNat_natCast]
    exact a3.symm
end
/-- the list of the images -/
def imgL (q : Nat) (T : List (List Int)) (k : Nat) : List Int := (List.range (q ^ k)).map fun j => ((imM q T k j : Nat) : Int)
theorem imgL_len (q : Nat) (T : List (List Int)) (k : Nat) : (imgL q T k).length = q ^ k := by unfold imgL; rw [List.length_map, List.length_range]
theorem imgL_at {q k j : Nat} {T : List (List Int)} (h : j < q ^ k) : (imgL q T k)[j]? = some ((imM q T k j : Nat) : Int) := by
  unfold imgL
  rw [List.getElem?_map, List.getElem?_range h]; rfl
theorem imgL_of {q k j : Nat} {T : List (List Int)} {z : Int} (h : (imgL q T k)[j]? = some z) : j < q ^ k ∧ z = ((imM q T k j : Nat) : Int) := by
  have hj : j < q ^ k := by
    have := (List.getElem?_eq_some_iff.mp h).1
    rw [imgL_len] at this
    exact this
  rw [imgL_at hj] at h
  exact ⟨hj, (Option.some.inj h).symm⟩
/-- the item of a list one dial longer -/
theorem imgL_step {q k i j : Nat} {T : List (List Int)} {z : Int} (hq : 0 < q) (hi : i < q) (hj : j < q ^ k) (h : (imgL q T (k + 1))[i * q ^ k + j]? = some z) : z = ((imM q T k j : Nat) : Int) + ((i : Int) + ttM T k j) % (q : Int) * ((q ^ k : Nat) : Int) := by
  obtain ⟨h1, rfl⟩ := imgL_of h
  show ((imM q T k ((i * q ^ k + j) % q ^ k) + (((((i * q ^ k + j) / q ^ k : Nat) : Int) + ttM T k ((i * q ^ k + j) % q ^ k)) % (q : Int)).toNat * q ^ k : Nat) : Int) = _
  rw [Nat.add_comm (i * q ^ k) j, dm_mod hj, dm_div hj, Int.natCast_add, Int.natCast_mul, fig_cast hq]
theorem valD_snoc (p d : Int) : ∀ ds : List Int, valD p (ds ++ [d]) = valD p ds + d * p ^ ds.length
  | [] => by show 0 * p + d = 0 + d * p ^ 0; rw [Int.pow_zero]; omega
  | x :: ds => by
    show valD p (ds ++ [d]) * p + x = valD p ds * p + x + d * p ^ (ds.length + 1)
    rw [valD_snoc p d ds, Int.add_mul, Int.pow_succ, Int.mul_assoc]
    omega
theorem snoc_of {ds : List Int} {k : Nat} (h : k < ds.length) : ds.take (k + 1) = ds.take k ++ [ds[k]'h] := by rw [List.take_add_one, List.getElem?_eq_getElem h]; rfl
theorem nam_len {p : Int} {T : List (List Int)} {ds : List Int} (h : ds.length = T.length) : (namM p T ds).length = ds.length := by
  unfold namM trn
  rw [List.length_zipWith, List.length_map, List.length_range, h, Nat.min_self]
theorem nam_at {p : Int} {T : List (List Int)} {ds : List Int} {k : Nat} (h : ds.length = T.length) (hk : k < ds.length) : (namM p T ds)[k]'(by rw [nam_len h]; exact hk) = (ds[k]'hk + ttM T k (valD p (ds.take k)).toNat) % p := by
  unfold namM trn ttM
  rw [List.getElem_zipWith, List.getElem_map, List.getElem_range]
theorem nam_figs {p : Int} {T : List (List Int)} {ds : List Int} (hp : 0 < p) : Figs p (namM p T ds) := fun d hd => by
  unfold namM at hd
  obtain ⟨k, hk⟩ := List.getElem?_of_mem hd
  rw [List.getElem?_zipWith] at hk
  split at hk
  · rw [← Option.some.inj hk]
    exact ⟨Int.emod_nonneg _ (by omega), Int.emod_lt_of_pos _ hp⟩
  · cases hk
/-- the number of what a relabelling makes of a setting -/
theorem nam_val {q : Nat} {T : List (List Int)} {ds : List Int} (hq : 0 < q) (hF : Figs q ds) (hl : ds.length = T.length) : ∀ k, k ≤ ds.length → 0 ≤ valD q (ds.take k) ∧ (valD q (ds.take k)).toNat < q ^ k ∧ valD q ((namM q T ds).take k) = ((imM q T k (valD q (ds.take k)).toNat : Nat) : Int)
  | 0, _ => by rw [List.take_zero, List.take_zero, Nat.pow_zero]; exact ⟨Int.le_refl 0, Nat.zero_lt_one, rfl⟩
  | k + 1, hk => by
    obtain ⟨h0, h1, h2⟩ := nam_val hq hF hl k (by omega)
    have hkl : k < ds.length := by omega
    have hkn : k < (namM q T ds).length := by rw [nam_len hl]; exact hkl
    have hd := hF _ (List.getElem_mem hkl)
    obtain ⟨x, hx⟩ : ∃ x : Nat, ds[k]'hkl = (x : Int) := ⟨(ds[k]'hkl).toNat, by omega⟩
    obtain ⟨v, hv⟩ : ∃ v : Nat, valD q (ds.take k) = (v : Int) := ⟨(valD q (ds.take k)).toNat, by omega⟩
    have hxq : x < q := by omega
    rw [hv, Int.toNat_natCast] at h1 h2
    have e1 : valD q (ds.take (k + 1)) = ((v + x * q ^ k : Nat) : Int) := by
      rw [snoc_of hkl, valD_snoc, hv, hx, List.length_take, Nat.min_eq_left (by omega), Int.natCast_add, Int.natCast_mul, Int.natCast_pow]
    have e2 : valD q ((namM q T ds).take (k + 1)) = valD q ((namM q T ds).take k) + (ds[k]'hkl + ttM T k v) % (q : Int) * (q : Int) ^ k := by
      rw [snoc_of hkn, valD_snoc, List.length_take, Nat.min_eq_left (by omega), nam_at hl hkl, hv, Int.toNat_natCast]
    rw [e1, Int.toNat_natCast]
    refine ⟨Int.natCast_nonneg _, by rw [Nat.pow_succ]; exact dm_lt h1 hxq, ?_⟩
    rw [e2, h2, hx]
    show _ = ((imM q T k ((v + x * q ^ k) % q ^ k) + (((((v + x * q ^ k) / q ^ k : Nat) : Int) + ttM T k ((v + x * q ^ k) % q ^ k)) % (q : Int)).toNat * q ^ k : Nat) : Int)
    rw [dm_mod h1, dm_div h1, Int.natCast_add, Int.natCast_mul, fig_cast hq, Int.natCast_pow]
theorem nam_num {q : Nat} {T : List (List Int)} {ds : List Int} (hq : 0 < q) (hF : Figs q ds) (hl : ds.length = T.length) : 0 ≤ valD q ds ∧ (valD q ds).toNat < q ^ ds.length ∧ valD q (namM q T ds) = ((imM q T ds.length (valD q ds).toNat : Nat) : Int) := by
  have h := nam_val hq hF hl ds.length (Nat.le_refl _)
  rw [List.take_length] at h
  rw [show (namM q T ds).take ds.length = namM q T ds by rw [← nam_len hl, List.take_length]] at h
  exact h
/-- equal numbers, equal settings -/
theorem valD_inj {q : Nat} (hq : 0 < q) : ∀ {ds es : List Int}, Figs q ds → Figs q es → ds.length = es.length → valD q ds = valD q es → ds = es
  | [], [], _, _, _, _ => rfl
  | [], _ :: _, _, _, h, _ => by cases h
  | _ :: _, [], _, _, h, _ => by cases h
  | d :: ds, e :: es, hd, he, h, hv => by
    have d1 := hd d List.mem_cons_self
    have e1 := he e List.mem_cons_self
    have hv' : valD q ds * (q : Int) + d = valD q es * (q : Int) + e := hv
    have m := congrArg (· % (q : Int)) hv'
    simp only [Int.mul_add_emod_self_right] at m
    rw [Int.emod_eq_of_lt d1.1 d1.2, Int.emod_eq_of_lt e1.1 e1.2] at m
    subst m
    have z : valD q ds = valD q es := Int.eq_of_mul_eq_mul_right (by omega) (by omega : valD q ds * (q : Int) = valD q es * (q : Int))
    rw [valD_inj hq (fun x hx => hd x (List.mem_cons_of_mem _ hx)) (fun x hx => he x (List.mem_cons_of_mem _ hx)) (by simpa using h) z]
/-- the images of the lower dials don't look at the tables of the upper ones -/
theorem imM_congr {q : Nat} {A B : List (List Int)} : ∀ (k j : Nat), (∀ i, i < k → A.getD i [] = B.getD i []) → imM q A k j = imM q B k j
  | 0, _, _ => rfl
  | k + 1, j, h => by
    have e : ttM A k (j % q ^ k) = ttM B k (j % q ^ k) := by unfold ttM; rw [h k (by omega)]
    show imM q A k (j % q ^ k) + _ = imM q B k (j % q ^ k) + _
    rw [imM_congr k _ fun i hi => h i (by omega), e]

abbrev sAll : Stmt := top 78
/-- the setting of n dials with the number j -/
def RowN (H : Hp) (v : V) (q n j : Nat) : Prop := ∃ a ds, v = .ref a ∧ H a = some (.tup (ds.map V.int)) ∧ Figs (q : Int) ds ∧ ds.length = n ∧ valD (q : Int) ds = (j : Int)
def RowsN (H : Hp) (xs : List V) (q n : Nat) : Prop := ∀ (j : Nat) v, xs[j]? = some v → RowN H v q n j
theorem RowN.same {H H' : Hp} {v : V} {q n j : Nat} (h : RowN H v q n j) (e : Same H H') : RowN H' v q n j := by
  obtain ⟨a, ds, rfl, h1, h2⟩ := h
  exact ⟨a, ds, rfl, e _ _ h1, h2⟩
theorem RowsN.same {H H' : Hp} {xs : List V} {q n : Nat} (h : RowsN H xs q n) (e : Same H H') : RowsN H' xs q n := fun j v hv => (h j v hv).same e
theorem RowN.lst {H : Hp} {v : V} {q n j : Nat} {r : Addr} {ys zs : List V} (x : RowN H v q n j) (h : H r = some (.lst ys)) : RowN (upd H r (.lst zs)) v q n j := by
  obtain ⟨a, ds, rfl, h1, h2⟩ := x
  exact ⟨a, ds, rfl, by rw [upd_ne (ne_of h1 h (by intro q; cases q))]; exact h1, h2⟩
def spAllN : Sp := fun vs H Q _ => ∃ (q n : Nat), vs = [.int (q : Int), .int (n : Int)] ∧ IsP (q : Int) ∧ n ≤ 100 ∧ (∀ i, i ≤ n → q ^ i ≤ 900) ∧ ∀ H' r xs, Same H H' → H r = none → H' r = some (.lst xs) → xs.length = q ^ n → RowsN H' xs q n → Q (.ref r) H'
theorem n_catA {P : Program} {w : World} {K : PySem.W.Frag} {mg : Str → Option Value} {base : Heap} {j : Nat} {X : Cx} {NS WS : List (Str × Nat)} {G : List Str} (h : Nm P w K mg base j X NS WS G) : OpR X (binaryOp .Add) (rCatA K) := by
  have q := h.eK
  subst q
  exact op_catA
section
variable {P : Program} {w : World} {K : PySem.W.Frag} {mg : Str → Option Value} {base : Heap} {aP : Addr} {tD : Tok} {C : Addr} {mc u : Value}
theorem scAll : FnScope ["_law_p", "_law_many", "_law_found", "_law_k", "_law_late", "_law_x", "_law_row"] ["_law_p", "_law_many"] (defScope sAll) := ⟨rfl, rfl, rfl, by decide +kernel, rfl, by decide +kernel, by decide +kernel⟩
theorem nmAll : nmB ["_law_p", "_law_many", "_law_found", "_law_k", "_law_late", "_law_x", "_law_row"] [("_law_p", 0), ("_law_many", 1), ("_law_found", 2), ("_law_k", 3), ("_law_late", 4), ("_law_x", 5)] ["range"] (defScope sAll) = true := by decide +kernel
theorem ok_alln {f : Addr} {fd : FuncData} (F : Fun K "_law_all_rows" "_law_all_rows" sAll f fd) (B : Bn mg) : FnOk P w K mg base CX0 1 f fd ["_law_p", "_law_many"] spAllN := by
  refine F.ok scAll (fun vs H Q E h => ?_) (fun cdv A outer s H vs Q E hr h => ?_)
  · obtain ⟨q, n, rfl, _⟩ := h
    rfl
  · obtain ⟨q, n, rfl, hP, hn, hpw, k⟩ := h
    have p2 := hP.two
    obtain ⟨b1, b2, b3, b4, b5, b6, b7, b8, b9, b10, b11⟩ := B
    refine' ex_mk ?d ?_
    case d =>
      have nm := nm_of (CX := CX0) (P := P) (w := w) (K := K) (mg := mg) (base := base) (outer := outer) (H := H) (E := E) nmAll hr
      refine' pss_cons ?s1 (pss_cons (n_for nm PassesOwn.never ?l1 ?g1 (pss_cons ?s2 (pss_cons (n_for nm PassesOwn.never ?l2 ?g2 (pss_one (ps_asg (pe_op op_cat ?e1 ?lc) ?g3))) (pss_one ?s3)))) (pss_one ?s4))
      case s1 => walk_at "ps"
      case l1 => walk_at "pi"
      case g1 => walk_at "pg"
      case s2 => walk_at "ps"
      case l2 => walk_at "pi"
      case g2 => walk_at "pg"
      case e1 => walk_at "pe"
      case lc =>
        refine' n_lc (own := [("_law_row", 6)]) (g := gName 6) (NS' := [("_law_x", 5), ("_law_row", 6)]) (WS' := [("_law_row", 6)]) (G' := []) (N := ["_law_p", "_law_many", "_law_found", "_law_k", "_law_late", "_law_x", "_law_row"]) (scD := defScope sAll) nm rfl rfl (by decide +kernel) (by decide +kernel) (pi_list ?li) (fun X' nm2 => ?lg) (fun X' nm2 => pe_op (n_catA nm2) ?q1 (pe_tup (pa_cons ?q2 pa_nil)))
        case li => walk_at "pe"
        case lg => walk_at "pg"
        case q1 => walk_at "pe"
        case q2 => walk_at "pe"
      case g3 => walk_at "pg"
      case s3 => walk_at "ps"
      case s4 => walk_at "ps"
    refine ⟨Nat.zero_le _, fun e0 he0 => ⟨by show 1 ≤ sizeLine; decide, fun r hr0 => ?_⟩⟩
    have s0 : Same H (upd (upd H e0 (.tup [])) r (.lst [.ref e0])) := same_add (same_new he0) hr0
    have hrN : H r = none := Same.free (same_new he0) hr0
    refine ⟨_, rfl, _, rfl, by omega, by omega, for_range (lo := 0) (n := ((n : Int)).toNat) (fun i σ H1 => ∃ (v3 v4 v5 v6 : Option V) (r : Addr) (xs : List V), σ = [some (.int (q : Int)), some (.int (n : Int)), some (.ref r), v3, v4, v5, v6] ∧ Same H H1 ∧ H r = none ∧ H1 r = some (.lst xs) ∧ RowsN H1 xs q i ∧ xs.length = q ^ i)
      ⟨none, none, none, none, r, [.ref e0], rfl, s0, hrN, upd_same, fun j v hv => ?_, rfl⟩ ?_ ?_⟩
    · match j, hv with
      | 0, hv =>
        obtain rfl := Option.some.inj hv
        exact ⟨e0, [], rfl, by rw [upd_ne (ne_of_none upd_same hr0)]; exact upd_same, fun d hd => absurd hd (by simp), rfl, rfl⟩
      | j + 1, hv => exact absurd hv (by simp)
    · rintro i σ H1 hi ⟨v3, v4, v5, v6, r1, xs, rfl, s1, hr1N, hr1, hrow, hxl⟩
      have hpi := hpw (i + 1) (by omega)
      have hpi2 : q ^ (i + 1) = q * q ^ i := by rw [Nat.pow_succ, Nat.mul_comm]
      refine ⟨Nat.zero_le _, fun l0 hl0 => ?_⟩
      refine ⟨_, rfl, _, rfl, by omega, by omega, for_range (lo := 0) (n := ((q : Int)).toNat) (fun c σ H2 => ∃ (v5 v6 : Option V) (l : Addr) (ys : List V), σ = [some (.int (q : Int)), some (.int (n : Int)), some (.ref r1), some (.int (0 + (i : Int))), some (.ref l), v5, v6] ∧ Same H1 H2 ∧ H1 l = none ∧ H2 l = some (.lst ys) ∧ RowsN H2 ys q (i + 1) ∧ ys.length = c * q ^ i)
        ⟨v5, v6, l0, [], rfl, same_new hl0, hl0, upd_same, fun j v hv => absurd hv (by simp), by simp⟩ ?_ ?_⟩
      · rintro c σ H2 hc ⟨w5, w6, l, ys, rfl, s2, hlN, hl, hys, hyl⟩
        have hcp : (c + 1) * q ^ i ≤ q * q ^ i := Nat.mul_le_mul_right _ (by omega)
        have hc1 : (c + 1) * q ^ i = c * q ^ i + q ^ i := Nat.succ_mul c _
        refine ⟨_, rfl, _, rfl, r1, rfl, ⟨_, SqL.of (s2 _ _ hr1)⟩, fun Dl hD => ?_⟩
        refine lcA (K := K) (J := Itl K r1) (xs := xs) (R := fun ix v H => RowN H v q (i + 1) (c * q ^ i + ix)) hD (small1000 (by omega)) (fun H' j e hj => ⟨xs, xs[j], SqL.of ((Same.trans s2 e) _ _ hr1), List.getElem?_eq_getElem hj⟩) (fun H' e => ⟨xs, SqL.of ((Same.trans s2 e) _ _ hr1), Nat.le_refl _⟩)
          (fun i x H' H2 e q => q.same e) (fun i x H' r ys zs e q => q.lst e) ?_ ?_ (fun v σ H A B hh q => hh _ _ q)
        · intro j e H3 v H4 Qk hx s3 hy kk
          obtain ⟨rfl, hy⟩ := hy
          have s13 := Same.trans s2 s3
          obtain ⟨a, ds, rfl, ha, hf, hdl, hdv⟩ := (hrow j v (hy xs (SqL.of (s13 _ _ hr1)))).same s13
          refine ⟨rfl, ?_⟩
          refine ⟨_, rfl, _, rfl, by show 1 ≤ sizeLine; decide, fun b hb => ?_⟩
          refine cat_any (xs := ds.map V.int) (ys := [.int (0 + (c : Int))]) ((same_new hb) _ _ ha) upd_same (by rw [List.length_map]; show ds.length + 1 ≤ 1000; omega) fun q H5 s5 hq => ?_
          refine kk (.ref q) H5 (Same.trans (same_new hb) s5) ⟨q, ds ++ [0 + (c : Int)], rfl, by rw [hq, List.map_append]; rfl, fun d hd => ?_, by simp [hdl], by rw [valD_snoc, hdv, hdl, Int.zero_add, Int.natCast_add, Int.natCast_mul, Int.natCast_pow, Int.add_comm]⟩
          rcases List.mem_append.mp hd with h | h
          · exact hf d h
          · rw [List.mem_singleton.mp h]; omega
        · intro zs H3 s3 hDl hzl hR
          have s13 := Same.trans s2 s3
          refine ⟨l, Dl, ys, zs, rfl, rfl, s3 _ _ hl, hDl, Nat.le_of_lt (small1000 (by omega)), fun w0 hq => ?_⟩
          refine ⟨_, _, w0, ys ++ zs, rfl, same_add s13 hq, Same.free s13 hq, upd_same, fun jx v hv => ?_, by rw [List.length_append, hyl, hzl, hxl, hc1]⟩
          by_cases cj : jx < ys.length
          · rw [List.getElem?_append_left cj] at hv
            exact (hys jx v hv).same (Same.trans s3 (same_new hq))
          · rw [List.getElem?_append_right (by omega)] at hv
            have := hR _ v hv
            rw [show c * q ^ i + (jx - ys.length) = jx by omega] at this
            exact this.same (same_new hq)
      · rintro σ H2 ⟨w5, w6, l, ys, rfl, s2, hlN, hl, hys, hyl⟩
        exact ⟨_, rfl, _, _, _, _, l, ys, rfl, Same.trans s1 s2, Same.free s1 hlN, hl, hys, by rw [hyl, hpi2, Int.toNat_natCast]⟩
    · rintro σ H1 ⟨v3, v4, v5, v6, r1, xs, rfl, s1, hr1N, hr1, hrow, hxl⟩
      rw [Int.toNat_natCast] at hrow hxl
      exact ⟨_, rfl, k H1 r1 xs s1 hr1N hr1 hxl hrow⟩
end

section
variable {P : Program} {w : World} {K : PySem.W.Frag} {mg : Str → Option Value} {base : Heap} {aP : Addr} {tD : Tok} {C : Addr} {mc u : Value}
theorem scREq : FnScope ["self", "other"] ["self", "other"] (defScope sREq) := ⟨rfl, rfl, rfl, by decide +kernel, rfl, by decide +kernel, by decide +kernel⟩
theorem nmREq : nmB ["self", "other"] [("self", 0), ("other", 1)] ["isinstance", "Relabelling"] (defScope sREq) = true := by decide +kernel
theorem ok_req {f : Addr} {fd : FuncData} (F : Fun K "__eq__" "Relabelling.__eq__" sREq f fd) (B : Bn mg) (T' : Rc K C) (I : Ri K C) (mgC : mg "Relabelling" = some (.ref C)) : FnOk P w K mg base CX0 1 f fd ["self", "other"] (spREq K C) := by
  refine F.ok scREq (fun vs H Q E h => ?_) (fun cdv A outer s H vs Q E hr h => ?_)
  · rcases h with ⟨x, y, p, q, T, U, rfl, _⟩ | ⟨x, y, t, p, T, rfl, _⟩ <;> rfl
  · obtain ⟨b1, b2, b3, b4, b5, b6, b7, b8, b9, b10, b11⟩ := B
    have hcl := T'.cl
    refine' ex_mk ?d ?_
    case d =>
      have nm := nm_of (CX := CX0) (P := P) (w := w) (K := K) (mg := mg) (base := base) (outer := outer) (H := H) (E := E) nmREq hr
      have hu := nm.room.units
      refine' pss_one (ps_ret (pe_and ?e1 (pe_and ?e2 (pe_one (pe_cmpR (op_eqD hu) ?e3 ?e4 (nomark _))))))
      case e1 => walk_at "pe"
      case e2 => walk_at "pe"
      case e3 => walk_at "pe"
      case e4 => walk_at "pe"
    rcases h with ⟨x, y, p, q, T, U, rfl, ⟨dx, t, xs, h1, h2, h3⟩, ⟨dy, t', ys, g1, g2, g3⟩, k⟩ | ⟨x, y, ty, p, T, rfl, ⟨dx, t, xs, h1, h2, h3⟩, hy, hk, k⟩
    · refine ⟨_, rfl, _, _, _, _, _, rfl, .own C, .base (.ins g1 hcl I.ha I.hn I.htk I.hm), kitOwn K C, _, rfl, ?_⟩
      refine Eq.mpr (if_pos rfl) ?_
      refine ⟨_, rfl, x, C, dx, _, _, rfl, h1, T'.cl, T'.nP, rf_p _ _, _, rfl, y, C, dy, _, _, rfl, g1, T'.cl, T'.nP, rf_p _ _, rfl, _, rfl, ?_⟩
      by_cases c1 : p = q
      · subst c1
        refine Eq.mpr (if_pos (by simp)) ?_
        refine ⟨_, rfl, x, C, dx, _, _, rfl, h1, T'.cl, T'.nT, rf_t _ _, _, rfl, y, C, dy, _, _, rfl, g1, T'.cl, T'.nT, rf_t _ _, ?_⟩
        refine eq_tuT h2 g2 h3 g3 ?_
        have e : (decide (p = p) && decide (T = U)) = decide (T = U) := by simp
        rw [e] at k
        exact k
      · refine Eq.mpr (if_neg (by simp [c1])) ?_
        have e : (decide (p = q) && decide (T = U)) = false := by simp [c1]
        rw [e] at k
        exact k
    · refine ⟨_, rfl, _, _, _, _, _, rfl, .own C, hy, hk, _, rfl, ?_⟩
      exact Eq.mpr (if_neg (by simp)) k
open TL
end

abbrev sIm : Stmt := top 41
theorem OkB.q {p : Int} {T : List (List Int)} (h : OkB p T) : ∃ q : Nat, p = (q : Int) ∧ 2 ≤ q ∧ q ≤ 7 := by
  have := h.pr.two
  exact ⟨p.toNat, by omega, by omega, by omega⟩
def spIm : Sp := fun vs H Q _ => ∃ (q : Nat) (r : Addr) (xs : List V) (T : List (List Int)), vs = [.int (q : Int), .ref r] ∧ LtV H r xs ∧ RowsL H xs T ∧ OkB (q : Int) T ∧
  ∀ H' t, Same H H' → H t = none → H' t = some (.lst ((imgL q T T.length).map V.int)) → Q (.ref t) H'
section
variable {P : Program} {w : World} {K : PySem.W.Frag} {mg : Str → Option Value} {base : Heap}
theorem scIm : FnScope ["prime", "tables", "found", "table", "size", "figure", "image", "turn"] ["prime", "tables"] (defScope sIm) := ⟨rfl, rfl, rfl, by decide +kernel, rfl, by decide +kernel, by decide +kernel⟩
theorem nmIm : nmB ["prime", "tables", "found", "table", "size", "figure", "image", "turn"] [("prime", 0), ("tables", 1), ("found", 2), ("table", 3), ("size", 4)] ["len", "range"] (defScope sIm) = true := by decide +kernel
theorem ok_im {f : Addr} {fd : FuncData} (F : Fun K "images" "images" sIm f fd) (B : Bn mg) : FnOk P w K mg base CX0 1 f fd ["prime", "tables"] spIm := by
  refine F.ok scIm (fun vs H Q E h => ?_) (fun cdv A outer s H vs Q E hr h => ?_)
  · obtain ⟨q, r, xs, T, rfl, _⟩ := h
    rfl
  · obtain ⟨q, r, xs, T, rfl, hr1, hR, hO, k⟩ := h
    obtain ⟨b1, b2, b3, b4, b5, b6, b7, b8, b9, b10, b11⟩ := B
    refine' ex_mk ?d ?_
    case d =>
      have nm := nm_of (CX := CX0) (P := P) (w := w) (K := K) (mg := mg) (base := base) (outer := outer) (H := H) (E := E) nmIm hr
      refine' pss_cons ?s1 (pss_cons (n_for nm PassesOwn.never (pi_or (pi_list ?l1) (pi_tup ?l2)) ?fg (pss_cons ?c1 (pss_one (ps_asg ?lc ?g)))) (pss_one ?s3))
      case s1 => walk_at "ps"
      case l1 => walk_at "pe"
      case l2 => walk_at "pe"
      case fg => walk_at "pg"
      case c1 => walk_at "ps"
      case lc =>
        refine' n_lc2 (own := [("figure", 5), ("image", 6), ("turn", 7)]) (vs1 := [6, 7]) (g := gName 5) (g1 := gTup K 2 (gCons (gName 6) (gCons (gName 7) gNil))) (NS' := [("prime", 0), ("found", 2), ("table", 3), ("size", 4), ("figure", 5), ("image", 6), ("turn", 7)]) (WS' := [("figure", 5), ("image", 6), ("turn", 7)]) (G' := ["zip"]) (N := ["prime", "tables", "found", "table", "size", "figure", "image", "turn"]) (scD := defScope sIm) nm rfl rfl (by decide +kernel) (by decide +kernel) (by decide) (n_rng nm b6 ?rg (pa_cons ?ra pa_nil)) (fun X' nm2 => ?lg) (fun X' nm2 => pi_or2 (n_zipN nm2 b9 ?z1 (pa_cons ?z2 (pa_cons ?z3 pa_nil))) (n_zipA nm2 b9 ?z4 (pa_cons ?z5 (pa_cons ?z6 pa_nil)))) (fun X' nm2 => ?lg2) (fun X' nm2 => ?le)
        case rg => walk_at "mem"
        case ra => walk_at "pe"
        case lg => walk_at "pg"
        case z1 => walk_at "mem"
        case z2 => walk_at "pe"
        case z3 => walk_at "pe"
        case z4 => walk_at "mem"
        case z5 => walk_at "pe"
        case z6 => walk_at "pe"
        case lg2 => walk_at "pg"
        case le => walk_at "pe"
      case g => walk_at "pg"
      case s3 => walk_at "ps"
    have hp2 := hO.pr.two
    have hq : 0 < q := by omega
    have hxl : xs.length = T.length := hR.1
    have hle := hO.le
    refine ⟨by show 1 ≤ sizeLine; decide, fun f0 hf0 => ?_⟩
    have s1 : Same H (upd H f0 (.lst [.int 0])) := same_new hf0
    have hf1 : upd H f0 (.lst [.int 0]) f0 = some (.lst ((imgL q T 0).map V.int)) := upd_same
    generalize upd H f0 (.lst [.int 0]) = H1 at s1 hf1 ⊢
    rcases hr1 with hr1 | hr1
    · skip
      refine .inl ⟨_, rfl, r, rfl, ⟨_, SqL.of (s1 _ _ hr1)⟩, ?_⟩
      refine for_seq (xs := xs) (sj_L (K := K) (S := fun H' => Same H1 H') fun H' e => SqL.of (e _ _ (s1 _ _ hr1))) (fun i σ H' => Same H1 H' ∧ ∃ (fa : Addr) (v3 v4 v5 v6 v7 : Option V), σ = [some (.int (q : Int)), some (.ref r), some (.ref fa), v3, v4, v5, v6, v7] ∧ H fa = none ∧ H' fa = some (.lst ((imgL q T i).map V.int)))
        ⟨fun _ _ e => e, f0, none, none, none, none, none, rfl, hf0, hf1⟩ (fun i σ H' h => h.1) ?_ ?_
      · rintro i x σ H2 hx ⟨s2, fa, v3, v4, v5, v6, v7, rfl, hfaN, hfa⟩
        have hi : i < T.length := by rw [← hxl]; exact (List.getElem?_eq_some_iff.mp hx).1
        have hTi : T[i]? = some (T[i]'hi) := List.getElem?_eq_getElem hi
        obtain ⟨ta, rfl, hta⟩ := hR.2 i x _ hx hTi
        have s02 : Same H H2 := Same.trans s1 s2
        have hta := hta.same s02
        have hlen := hO.len i _ hTi
        generalize hrow : T[i]'hi = row at hTi hta hlen
        have hrl : row.length = q ^ i := by
          have : ((row.length : Nat) : Int) = ((q ^ i : Nat) : Int) := by rw [hlen, Int.natCast_pow]
          exact Int.ofNat.inj this
        have hqi1 : q ^ (i + 1) ≤ 20000 := by
          have z : ((q : Int)) ^ (i + 1) ≤ (q : Int) ^ T.length := pow_up (by omega) (by omega)
          have z2 : (((q ^ (i + 1) : Nat)) : Int) ≤ 20000 := by rw [Int.natCast_pow]; exact Int.le_trans z hO.few
          exact Int.ofNat_le.mp z2
        have hsz : (20000 : Nat) < sizeLine := by rw [sizeLine_eq]; decide
        have hil : ((imgL q T i).map V.int).length = q ^ i := by rw [List.length_map, imgL_len]
        refine ⟨_, rfl, fa, _, rfl, .inl (SqL.of hfa), ?_⟩
        rw [hil]
        refine ⟨_, rfl, (q : Int), rfl, by omega, by omega, ?_⟩
        rw [Int.toNat_natCast]
        intro D hD
        refine lc2_rp (xs := (imgL q T i).map V.int) (ys := row.map V.int) (fs := (imgL q T (i + 1)).map V.int) (n := q) (i1 := 5) hD (by rw [List.length_map, imgL_len, hil, Nat.pow_succ, Nat.mul_comm]) (by rw [hil, List.length_map, hrl]) (by rw [List.length_map, imgL_len]; omega) ?_ ?_ ?_ ?_ (gm_tup (gms_cons gm_nm (gms_cons gm_nm gms_nil)))
        · exact fun x => rfl
        · intro a H3 R ha s3 k3
          rcases hta with hta | hta
          · exact .inr ⟨_, rfl, _, rfl, fa, ta, _, _, rfl, .inl ⟨SqL.of (s3 _ _ hfa), SqL.of (s3 _ _ hta), k3 _ _ (fun _ _ e => e) (pj_L fun H4 s4 => ⟨SqL.of (s4 _ _ hfa), SqL.of (s4 _ _ hta)⟩)⟩⟩
          · exact .inl ⟨_, rfl, _, rfl, fa, ta, _, _, rfl, SqL.of (s3 _ _ hfa), SqT.of (s3 _ _ hta), k3 _ _ (fun _ _ e => e) (pj_N (by rw [hil, List.length_map, hrl]) fun H4 s4 => ⟨SqL.of (s4 _ _ hfa), SqT.of (s4 _ _ hta)⟩)⟩
        · intro a j x y z TT H3 Qk ha hx3 hy3 hz3 s3 hTT kk
          obtain ⟨im, him, rfl⟩ := int_of' hx3
          obtain ⟨tn, htn, rfl⟩ := int_of' hy3
          obtain ⟨zz, hzz, rfl⟩ := int_of' hz3
          rw [hil] at hzz
          obtain ⟨hj, rfl⟩ := imgL_of him
          have etn : tn = ttM T i j := by
            unfold ttM
            rw [List.getD_eq_getElem?_getD, List.getD_eq_getElem?_getD, hTi, Option.getD_some, htn]; rfl
          have ez := imgL_step hq ha hj hzz
          subst etn
          refine ⟨TT, _, rfl, SqT.of upd_same, rfl, _, _, rfl, _, _, rfl, rfl, rfl, ?_⟩
          refine ⟨_, rfl, _, rfl, _, rfl, _, _, rfl, rfl, _, rfl, _, _, rfl, rfl, (by show (0 : Int) < (q : Int); omega), _, rfl, _, _, rfl, rfl, .inl ⟨?_, ?_⟩, _, _, rfl, rfl, ?_⟩
          · have m0 := Int.emod_nonneg (0 + (a : Int) + ttM T i j) (b := (q : Int)) (by omega)
            omega
          · have m1 := Int.emod_lt_of_pos (0 + (a : Int) + ttM T i j) (b := (q : Int)) (by omega)
            omega
          · have z2 := kk _ (fun _ _ e => e)
            rw [ez] at z2
            rw [show (0 : Int) + (a : Int) = (a : Int) by omega]
            exact z2
        · intro H5 s5 hD5
          exact ⟨Same.trans s2 s5, D, _, _, v5, v6, v7, rfl, Same.free s02 hD, hD5⟩
      · rintro σ H2 ⟨s2, fa, v3, v4, v5, v6, v7, rfl, hfaN, hfa⟩
        rw [hxl] at hfa
        exact ⟨_, rfl, k _ fa (Same.trans s1 s2) hfaN hfa⟩
    · skip
      refine .inr ⟨_, rfl, r, rfl, ⟨_, SqT.of (s1 _ _ hr1)⟩, ?_⟩
      refine for_seq (xs := xs) (sj_T (K := K) (S := fun H' => Same H1 H') fun H' e => SqT.of (e _ _ (s1 _ _ hr1))) (fun i σ H' => Same H1 H' ∧ ∃ (fa : Addr) (v3 v4 v5 v6 v7 : Option V), σ = [some (.int (q : Int)), some (.ref r), some (.ref fa), v3, v4, v5, v6, v7] ∧ H fa = none ∧ H' fa = some (.lst ((imgL q T i).map V.int)))
        ⟨fun _ _ e => e, f0, none, none, none, none, none, rfl, hf0, hf1⟩ (fun i σ H' h => h.1) ?_ ?_
      · rintro i x σ H2 hx ⟨s2, fa, v3, v4, v5, v6, v7, rfl, hfaN, hfa⟩
        have hi : i < T.length := by rw [← hxl]; exact (List.getElem?_eq_some_iff.mp hx).1
        have hTi : T[i]? = some (T[i]'hi) := List.getElem?_eq_getElem hi
        obtain ⟨ta, rfl, hta⟩ := hR.2 i x _ hx hTi
        have s02 : Same H H2 := Same.trans s1 s2
        have hta := hta.same s02
        have hlen := hO.len i _ hTi
        generalize hrow : T[i]'hi = row at hTi hta hlen
        have hrl : row.length = q ^ i := by
          have : ((row.length : Nat) : Int) = ((q ^ i : Nat) : Int) := by rw [hlen, Int.natCast_pow]
          exact Int.ofNat.inj this
        have hqi1 : q ^ (i + 1) ≤ 20000 := by
          have z : ((q : Int)) ^ (i + 1) ≤ (q : Int) ^ T.length := pow_up (by omega) (by omega)
          have z2 : (((q ^ (i + 1) : Nat)) : Int) ≤ 20000 := by rw [Int.natCast_pow]; exact Int.le_trans z hO.few
          exact Int.ofNat_le.mp z2
        have hsz : (20000 : Nat) < sizeLine := by rw [sizeLine_eq]; decide
        have hil : ((imgL q T i).map V.int).length = q ^ i := by rw [List.length_map, imgL_len]
        refine ⟨_, rfl, fa, _, rfl, .inl (SqL.of hfa), ?_⟩
        rw [hil]
        refine ⟨_, rfl, (q : Int), rfl, by omega, by omega, ?_⟩
        rw [Int.toNat_natCast]
        intro D hD
        refine lc2_rp (xs := (imgL q T i).map V.int) (ys := row.map V.int) (fs := (imgL q T (i + 1)).map V.int) (n := q) (i1 := 5) hD (by rw [List.length_map, imgL_len, hil, Nat.pow_succ, Nat.mul_comm]) (by rw [hil, List.length_map, hrl]) (by rw [List.length_map, imgL_len]; omega) ?_ ?_ ?_ ?_ (gm_tup (gms_cons gm_nm (gms_cons gm_nm gms_nil)))
        · exact fun x => rfl
        · intro a H3 R ha s3 k3
          rcases hta with hta | hta
          · exact .inr ⟨_, rfl, _, rfl, fa, ta, _, _, rfl, .inl ⟨SqL.of (s3 _ _ hfa), SqL.of (s3 _ _ hta), k3 _ _ (fun _ _ e => e) (pj_L fun H4 s4 => ⟨SqL.of (s4 _ _ hfa), SqL.of (s4 _ _ hta)⟩)⟩⟩
          · exact .inl ⟨_, rfl, _, rfl, fa, ta, _, _, rfl, SqL.of (s3 _ _ hfa), SqT.of (s3 _ _ hta), k3 _ _ (fun _ _ e => e) (pj_N (by rw [hil, List.length_map, hrl]) fun H4 s4 => ⟨SqL.of (s4 _ _ hfa), SqT.of (s4 _ _ hta)⟩)⟩
        · intro a j x y z TT H3 Qk ha hx3 hy3 hz3 s3 hTT kk
          obtain ⟨im, him, rfl⟩ := int_of' hx3
          obtain ⟨tn, htn, rfl⟩ := int_of' hy3
          obtain ⟨zz, hzz, rfl⟩ := int_of' hz3
          rw [hil] at hzz
          obtain ⟨hj, rfl⟩ := imgL_of him
          have etn : tn = ttM T i j := by
            unfold ttM
            rw [List.getD_eq_getElem?_getD, List.getD_eq_getElem?_getD, hTi, Option.getD_some, htn]; rfl
          have ez := imgL_step hq ha hj hzz
          subst etn
          refine ⟨TT, _, rfl, SqT.of upd_same, rfl, _, _, rfl, _, _, rfl, rfl, rfl, ?_⟩
          refine ⟨_, rfl, _, rfl, _, rfl, _, _, rfl, rfl, _, rfl, _, _, rfl, rfl, (by show (0 : Int) < (q : Int); omega), _, rfl, _, _, rfl, rfl, .inl ⟨?_, ?_⟩, _, _, rfl, rfl, ?_⟩
          · have m0 := Int.emod_nonneg (0 + (a : Int) + ttM T i j) (b := (q : Int)) (by omega)
            omega
          · have m1 := Int.emod_lt_of_pos (0 + (a : Int) + ttM T i j) (b := (q : Int)) (by omega)
            omega
          · have z2 := kk _ (fun _ _ e => e)
            rw [ez] at z2
            rw [show (0 : Int) + (a : Int) = (a : Int) by omega]
            exact z2
        · intro H5 s5 hD5
          exact ⟨Same.trans s2 s5, D, _, _, v5, v6, v7, rfl, Same.free s02 hD, hD5⟩
      · rintro σ H2 ⟨s2, fa, v3, v4, v5, v6, v7, rfl, hfaN, hfa⟩
        rw [hxl] at hfa
        exact ⟨_, rfl, k _ fa (Same.trans s1 s2) hfaN hfa⟩
end

/-! ### rounds of a one-to-one map of numbers -/
def itF (f : Nat → Nat) : Nat → Nat → Nat
  | 0, j => j
  | i + 1, j => f (itF f i j)
structure InjN (f : Nat → Nat) (N : Nat) : Prop where
  lt : ∀ j, j < N → f j < N
  inj : ∀ a b, a < N → b < N → f a = f b → a = b
structure Orb (f : Nat → Nat) (j L : Nat) : Prop where
  pos : 0 < L
  back : itF f L j = j
  fst : ∀ i, 0 < i → i < L → itF f i j ≠ j
def orbL (f : Nat → Nat) (j L : Nat) : List Nat := (List.range L).map fun i => itF f i j
theorem orbL_len (f : Nat → Nat) (j L : Nat) : (orbL f j L).length = L := by unfold orbL; rw [List.length_map, List.length_range]
theorem itF_lt {f : Nat → Nat} {N : Nat} (h : InjN f N) {j : Nat} (hj : j < N) : ∀ i, itF f i j < N
  | 0 => hj
  | i + 1 => h.lt _ (itF_lt h hj i)
theorem itF_add (f : Nat → Nat) (j : Nat) : ∀ a b, itF f (a + b) j = itF f a (itF f b j)
  | 0, b => by rw [Nat.zero_add]; rfl
  | a + 1, b => by
    rw [Nat.add_right_comm]
    show f (itF f (a + b) j) = f (itF f a (itF f b j))
    rw [itF_add f j a b]
theorem itF_peel {f : Nat → Nat} {N : Nat} (h : InjN f N) {j : Nat} (hj : j < N) (d : Nat) : ∀ a, itF f a j = itF f (a + d) j → j = itF f d j
  | 0, e => by rw [Nat.zero_add] at e; exact e
  | a + 1, e => by
    rw [Nat.add_right_comm] at e
    exact itF_peel h hj d a (h.inj _ _ (itF_lt h hj _) (itF_lt h hj _) e)
theorem nodup_natLe {N : Nat} {l : List Nat} (hn : l.Nodup) (h : ∀ x ∈ l, x < N) : l.length ≤ N := by
  have a : (l.map fun x : Nat => (x : Int)).Nodup := List.Pairwise.map _ (fun x y hxy e => hxy (Int.ofNat.inj e)) hn
  have b := inI_len (n := N) a fun c hc => by
    obtain ⟨x, hx, rfl⟩ := List.mem_map.mp hc
    have := h x hx
    exact ⟨by omega, by omega⟩
  rwa [List.length_map] at b
theorem pigeon {N : Nat} {g : Nat → Nat} (h : ∀ i, i ≤ N → g i < N) : ∃ i k, i < k ∧ k ≤ N ∧ g i = g k := by
  refine Classical.byContradiction fun hc => ?_
  have hn : ((List.range (N + 1)).map g).Nodup := by
    rw [List.nodup_iff_pairwise_ne, List.pairwise_map]
    refine List.Pairwise.imp_of_mem ?_ (List.pairwise_lt_range (n := N + 1))
    intro a b ha hb hab e
    exact hc ⟨a, b, hab, by have := List.mem_range.mp hb; omega, e⟩
  have := nodup_natLe hn (N := N) fun x hx => by
    obtain ⟨i, hi, rfl⟩ := List.mem_map.mp hx
    exact h i (by have := List.mem_range.mp hi; omega)
  rw [List.length_map, List.length_range] at this
  omega
theorem orb_ex {f : Nat → Nat} {N : Nat} (h : InjN f N) {j : Nat} (hj : j < N) : ∃ L, Orb f j L ∧ L ≤ N := by
  obtain ⟨i, k, hik, hk, e⟩ := pigeon (N := N) (g := fun i => itF f i j) fun i _ => itF_lt h hj i
  have e2 : itF f i j = itF f (i + (k - i)) j := by rw [show i + (k - i) = k by omega]; exact e
  have e3 := (itF_peel h hj (k - i) i e2).symm
  have hex : ∃ L, (0 < L ∧ itF f L j = j) := ⟨k - i, by omega, e3⟩
  have key : ∀ n, (∃ L, L ≤ n ∧ 0 < L ∧ itF f L j = j) → ∃ L, L ≤ n ∧ Orb f j L := fun n => by
    induction n with
    | zero => rintro ⟨L, a, b, _⟩; omega
    | succ n ih =>
      rintro ⟨L, a, b, c⟩
      by_cases hs : ∃ L, L ≤ n ∧ 0 < L ∧ itF f L j = j
      · obtain ⟨L', p, q⟩ := ih hs
        exact ⟨L', by omega, q⟩
      · have eL : L = n + 1 := by
          rcases Nat.lt_or_ge L (n + 1) with z | z
          · exact absurd ⟨L, by omega, b, c⟩ hs
          · omega
        subst eL
        exact ⟨n + 1, Nat.le_refl _, b, c, fun i i0 i1 e => hs ⟨i, by omega, i0, e⟩⟩
  obtain ⟨L, a, b⟩ := key (k - i) ⟨k - i, Nat.le_refl _, by omega, e3⟩
  exact ⟨L, b, by omega⟩
theorem orbL_nodup {f : Nat → Nat} {N : Nat} (h : InjN f N) {j L : Nat} (hj : j < N) (o : Orb f j L) : (orbL f j L).Nodup := by
  unfold orbL
  rw [List.nodup_iff_pairwise_ne, List.pairwise_map]
  refine List.Pairwise.imp_of_mem ?_ (List.pairwise_lt_range (n := L))
  intro a b ha hb hab e
  have hb' := List.mem_range.mp hb
  have e2 : itF f a j = itF f (a + (b - a)) j := by rw [show a + (b - a) = b by omega]; exact e
  exact o.fst (b - a) (by omega) (by omega) (itF_peel h hj (b - a) a e2).symm
theorem orbL_mem {f : Nat → Nat} {j L x : Nat} (h : x ∈ orbL f j L) : ∃ i, i < L ∧ x = itF f i j := by
  obtain ⟨i, hi, rfl⟩ := List.mem_map.mp h
  exact ⟨i, List.mem_range.mp hi, rfl⟩
/-- the numbers that have been seen, and the lengths of the rounds, behind k numbers -/
structure SeenK (f : Nat → Nat) (N k : Nat) (sn ls : List Nat) : Prop where
  cl : ∀ x ∈ sn, f x ∈ sn
  nd : sn.Nodup
  bd : ∀ x ∈ sn, x < N
  al : ∀ j, j < k → j ∈ sn
  sm : ls.sum = sn.length
  le : ls.length ≤ k
theorem SeenK.zero (f : Nat → Nat) (N : Nat) : SeenK f N 0 [] [] := ⟨fun x hx => (by cases hx), List.nodup_nil, fun x hx => (by cases hx), fun j hj => absurd hj (Nat.not_lt_zero j), rfl, Nat.le_refl 0⟩
/-- how long the round of a number is -/
noncomputable def perF (f : Nat → Nat) (j : Nat) : Nat := by
  classical
  exact if h : ∃ L, Orb f j L then h.choose else 0
/-- the numbers seen and the lengths found, number by number -/
noncomputable def runF (f : Nat → Nat) : Nat → List Nat × List Nat
  | 0 => ([], [])
  | k + 1 => if k ∈ (runF f k).1 then runF f k else ((runF f k).1 ++ orbL f k (perF f k), (runF f k).2 ++ [perF f k])
abbrev sTB : Stmt := top 38
def totL (p : Int) (M : Mach) (st : Int) (n : Nat) : List Int := (List.range n).map (totN p M st)
theorem totL_succ (p : Int) (M : Mach) (st : Int) (n : Nat) : totL p M st (n + 1) = totL p M st n ++ [totN p M st n] := by
  unfold totL
  rw [List.range_succ, List.map_append]; rfl
theorem totL_len (p : Int) (M : Mach) (st : Int) (n : Nat) : (totL p M st n).length = n := by unfold totL; rw [List.length_map, List.length_range]
def spTB (C : Addr) : Sp := fun vs H Q _ => ∃ (x : Addr) (p : Int) (M : Mach) (st : Int) (n : Nat), vs = [.ref x, .int (n : Int)] ∧ TurAt C H x p M st ∧ OkT p M st ∧ n ≤ 200 ∧ ∀ H' r, Same H H' → H r = none → H' r = some (.lst ((totL p M st n).map V.int)) → Q (.ref r) H'
theorem any_int (ds : List Int) (k : Int) : (ds.map PyData.int).any (fun x => PyData.eqv x (.int k)) = decide (k ∈ ds) := by
  induction ds with
  | nil => rfl
  | cons d r ih =>
    rw [List.map_cons, List.any_cons, ih]
    show (decide (d = k) || decide (k ∈ r)) = decide (k ∈ d :: r)
    by_cases c : d = k
    · subst c; simp
    · have c' : ¬ k = d := fun e => c e.symm
      simp [c, c']
theorem in_ints {K : PySem.W.Frag} {H : Hp} {b : Addr} {ds : List Int} {k : Int} {Q : V → Hp → Prop} (hb : H b = some (.lst (ds.map V.int))) (q : Q (.bl (decide (k ∈ ds))) H) : rInD K (.int k) (.ref b) H Q := by
  refine ⟨_, _, .int k, .lst (SqL.of hb) (dp_ints ds), ?_, shaped_l ds, ?_⟩
  · rfl
  · rw [any_int]
    exact q
section
variable {P : Program} {w : World} {K : PySem.W.Frag} {mg : Str → Option Value} {base : Heap} {C : Addr}
theorem scTB : FnScope ["turner", "dials", "totals", "counts", "_"] ["turner", "dials"] (defScope sTB) := ⟨rfl, rfl, rfl, by decide +kernel, rfl, by decide +kernel, by decide +kernel⟩
theorem nmTB : nmB ["turner", "dials", "totals", "counts", "_"] [("turner", 0), ("dials", 1), ("totals", 2), ("counts", 3), ("_", 4)] ["first_counts", "range", "next_counts", "turn_total"] (defScope sTB) = true := by decide +kernel
theorem ok_tb {f : Addr} {fd : FuncData} (F : Fun K "totals_below" "totals_below" sTB f fd) (B : Bn mg)
    (C1 : Df P w K mg base 3 "first_counts" ["turner"] (spFC C)) (C2 : Df P w K mg base 5 "next_counts" ["turner", "counts"] (spNC C)) (C3 : Df P w K mg base 5 "turn_total" ["turner", "counts"] (spTT C)) : FnOk P w K mg base CX0 6 f fd ["turner", "dials"] (spTB C) := by
  refine F.ok scTB (fun vs H Q E h => ?_) (fun cdv A outer s H vs Q E hr h => ?_)
  · obtain ⟨x, p, M, st, n, rfl, _⟩ := h
    rfl
  · obtain ⟨x, p, M, st, n, rfl, hT, hO, hn, k⟩ := h
    obtain ⟨b1, b2, b3, b4, b5, b6, b7, b8, b9, b10, b11⟩ := B
    refine' ex_mk ?d ?_
    case d =>
      have nm := nm_of (CX := CX0) (P := P) (w := w) (K := K) (mg := mg) (base := base) (outer := outer) (H := H) (E := E) nmTB hr
      walk_at "pss"
    refine ⟨by show 0 ≤ sizeLine; decide, fun q hq0 => ?_⟩
    have s0 := same_new (o := .lst []) hq0
    refine ⟨_, rfl, x, p, M, st, rfl, hT.same s0, hO, fun H1 r1 s1 hr10 hr1 => ?_⟩
    have hq1 := s1 _ _ (upd_same (H := H) (a := q) (o := HO.lst []))
    refine ⟨_, rfl, _, rfl, by omega, by omega, for_range (lo := 0) (n := ((n : Int)).toNat) (fun i σ H2 => ∃ r v4, σ = [some (.ref x), some (.int (n : Int)), some (.ref q), some (.ref r), v4] ∧ Same H H2 ∧ r ≠ q ∧ H2 r = some (.lst ((itC p M st i).map V.int)) ∧ H2 q = some (.lst ((totL p M st i).map V.int))) ⟨_, _, rfl, Same.trans s0 s1, ne_of_none upd_same hr10 |>.symm, hr1, hq1⟩ ?_ ?_⟩
    · rintro i σ H2 hi ⟨r, v4, rfl, s2, hne, hr2, hq2⟩
      have hN := itC_ok hO.pr M st i
      refine ⟨_, rfl, .inl ⟨rfl, _, SqL.of hq2⟩, _, rfl, _, rfl, x, r, p, M, st, _, rfl, hT.same s2, hO, .inl hr2, hN, fun H3 s3 => ?_⟩
      refine ⟨q, _, _, rfl, rfl, s3 _ _ hq2, small1000 (by rw [List.length_map, totL_len]; omega), ?_⟩
      have s4 := same_put (o := .lst ((totL p M st i).map V.int ++ [.int (totC p M (itC p M st i))])) (Same.trans s2 s3) hq0
      refine ⟨_, rfl, _, rfl, x, r, p, M, st, _, rfl, hT.same s4, hO, .inl (by rw [upd_ne hne]; exact s3 _ _ hr2), hN, fun H4 r4 s5 hr40 hr4 => ?_⟩
      refine ⟨_, _, rfl, Same.trans s4 s5, (ne_of_none upd_same hr40).symm, hr4, ?_⟩
      rw [s5 _ _ upd_same, totL_succ, List.map_append]; rfl
    · rintro σ H2 ⟨r, v4, rfl, s2, hne, hr2, hq2⟩
      rw [Int.toNat_natCast] at hq2
      exact ⟨_, rfl, k _ _ s2 hq0 hq2⟩
end

abbrev sRBh : Stmt := inClass (top 47) 12
theorem tt_row {T : List (List Int)} {k : Nat} {r : List Int} (h : T[k]? = some r) (j : Nat) : r.getD j 0 = ttM T k j := by
  unfold ttM
  rw [List.getD_eq_getElem?_getD (l := T), h]; rfl
theorem OkB.row {q : Nat} {T : List (List Int)} (h : OkB q T) {k : Nat} {r : List Int} (hr : T[k]? = some r) : r.length = q ^ k ∧ q ^ k ≤ 20000 := by
  have e := h.len k r hr
  have p2 := h.pr.two
  have hk := (List.getElem?_eq_some_iff.mp hr).1
  have z : ((q : Int)) ^ k ≤ (q : Int) ^ T.length := pow_up (by omega) (by omega)
  have z2 : (((q ^ k : Nat)) : Int) ≤ 20000 := by rw [Int.natCast_pow]; exact Int.le_trans z h.few
  refine ⟨?_, Int.ofNat_le.mp z2⟩
  have : ((r.length : Nat) : Int) = ((q ^ k : Nat) : Int) := by rw [e, Int.natCast_pow]
  exact Int.ofNat.inj this
def spRBh (C : Addr) : Sp := fun vs H Q _ => ∃ (x : Addr) (q k : Nat) (T : List (List Int)), vs = [.ref x, .int (k : Int)] ∧ RelAt C H x (q : Int) T ∧ OkB (q : Int) T ∧ k ≤ T.length ∧
  ∀ H' t, Same H H' → H t = none → H' t = some (.lst ((imgL q T k).map V.int)) → Q (.ref t) H'
theorem rowsT_take {H : Hp} {xs : List V} {T : List (List Int)} (h : RowsT H xs T) (k : Nat) : RowsL H (xs.take k) (T.take k) := ⟨by rw [List.length_take, List.length_take, h.1], fun i v r e1 e2 => by
  rw [List.getElem?_take] at e1 e2
  split at e1
  · rw [if_pos (by assumption)] at e2
    obtain ⟨a, e3, e4⟩ := h.2 i v r e1 e2
    exact ⟨a, e3, .inr e4⟩
  · cases e1⟩
theorem OkB.take {p : Int} {T : List (List Int)} (h : OkB p T) (k : Nat) : OkB p (T.take k) := by
  have hl : (T.take k).length ≤ T.length := by rw [List.length_take]; omega
  have p2 := h.pr.two
  refine ⟨h.pr, fun i r e => ?_, fun r hr => h.fig r (List.mem_of_mem_take hr), Int.le_trans (pow_up (by omega) hl) h.few, by have := h.le; omega⟩
  rw [List.getElem?_take] at e
  split at e
  · exact h.len i r e
  · cases e
theorem imgL_take {q k : Nat} {T : List (List Int)} : imgL q (T.take k) k = imgL q T k := by
  unfold imgL
  refine List.map_congr_left fun j _ => ?_
  rw [imM_congr (A := T.take k) (B := T) k j fun i hi => by rw [List.getD_eq_getElem?_getD, List.getD_eq_getElem?_getD, List.getElem?_take, if_pos hi]]
section
variable {P : Program} {w : World} {K : PySem.W.Frag} {mg : Str → Option Value} {base : Heap} {C CPD CIC : Addr}
theorem scRBh : FnScope ["self", "dials"] ["self", "dials"] (defScope sRBh) := ⟨rfl, rfl, rfl, by decide +kernel, rfl, by decide +kernel, by decide +kernel⟩
theorem nmRBh : nmB ["self", "dials"] [("self", 0), ("dials", 1)] ["images"] (defScope sRBh) = true := by decide +kernel
theorem ok_rbh {f : Addr} {fd : FuncData} (F : Fun K "_behind" "Relabelling._behind" sRBh f fd) (T' : Rc K C) (D : Df P w K mg base 1 "images" ["prime", "tables"] spIm) : FnOk P w K mg base CX0 2 f fd ["self", "dials"] (spRBh C) := by
  refine F.ok scRBh (fun vs H Q E h => ?_) (fun cdv A outer s H vs Q E hr h => ?_)
  · obtain ⟨x, q, k, T, rfl, _⟩ := h
    rfl
  · obtain ⟨x, q, k, T, rfl, ⟨dx, t, xs, h1, h2, h3⟩, hO, hk, kk⟩ := h
    refine' ex_mk ?d ?_
    case d =>
      have nm := nm_of (CX := CX0) (P := P) (w := w) (K := K) (mg := mg) (base := base) (outer := outer) (H := H) (E := E) nmRBh hr
      refine' pss_one (ps_ret (n_d nm D (by decide) ?g (pa_cons ?a (pa_cons (n_slA nm ?b1 po_none (po_some ?b2)) pa_nil))))
      case g => walk_at "mem"
      case a => walk_at "pe"
      case b1 => walk_at "pe"
      case b2 => walk_at "pe"
    refine ⟨_, rfl, x, C, dx, _, _, rfl, h1, T'.cl, T'.nP, rf_p _ _, ?_⟩
    refine ⟨_, rfl, x, C, dx, _, _, rfl, h1, T'.cl, T'.nT, rf_t _ _, _, rfl, _, rfl, sl_any (n := k) h2 fun r H5 s5 hr5 => ?_⟩
    refine ⟨q, r, _, T.take k, rfl, .inr hr5, (rowsT_take (rowsT_same h3 s5) k), hO.take k, fun H6 t6 s6 ht6 hi6 => ?_⟩
    rw [List.length_take, Nat.min_eq_left hk, imgL_take] at hi6
    exact kk _ t6 (Same.trans s5 s6) (Same.free s5 ht6) hi6
end

abbrev sUT : Stmt := top 45
abbrev sRInv : Stmt := inClass (top 47) 6
theorem flat_rep0u (n : Nat) : (List.replicate n [V.int 0]).flatten = (List.replicate n (0 : Int)).map V.int := by
  rw [flat_rep, List.map_replicate]
theorem ixN_inu {n : Nat} {i : Int} (i0 : 0 ≤ i) (i1 : i < (n : Int)) : ixN n i = some i.toNat := by
  unfold ixN
  have h1 : ¬ i < 0 := by omega
  simp [h1, i0]
  try omega
def spUT : Sp := fun vs H Q _ => ∃ (q k : Nat) (T : List (List Int)) (r : List Int) (ta bh : Addr), vs = [.int (q : Int), .ref ta, .ref bh] ∧ 2 ≤ q ∧ q ≤ 7 ∧ H ta = some (.tup (r.map V.int)) ∧ H bh = some (.lst ((imgL q T k).map V.int)) ∧ r.length = q ^ k ∧ q ^ k ≤ 20000 ∧ (∀ j, r.getD j 0 = ttM T k j) ∧
  ∀ H' t U, Same H H' → H t = none → H' t = some (.lst (U.map V.int)) → U.length = q ^ k → Figs q U → (∀ j, j < q ^ k → U.getD (imM q T k j) 0 = (-ttM T k j) % (q : Int)) → Q (.ref t) H'
def spRInv (C : Addr) : Sp := fun vs H Q _ => ∃ (x : Addr) (q : Nat) (T : List (List Int)), vs = [.ref x] ∧ RelAt C H x (q : Int) T ∧ OkR (q : Int) T ∧
  ∀ H' z U, Same H H' → H z = none → RelAt C H' z (q : Int) U → OkR (q : Int) U → U.length = T.length → UndM q T.length T U → Q (.ref z) H'
section
variable {P : Program} {w : World} {K : PySem.W.Frag} {mg : Str → Option Value} {base : Heap} {C CPD CIC : Addr}
theorem scUT : FnScope ["prime", "table", "behind", "undone", "turn", "image"] ["prime", "table", "behind"] (defScope sUT) := ⟨rfl, rfl, rfl, by decide +kernel, rfl, by decide +kernel, by decide +kernel⟩
theorem nmUT : nmB ["prime", "table", "behind", "undone", "turn", "image"] [("prime", 0), ("table", 1), ("behind", 2), ("undone", 3), ("turn", 4), ("image", 5)] ["len", "zip"] (defScope sUT) = true := by decide +kernel
theorem ok_ut {f : Addr} {fd : FuncData} (F : Fun K "_undone_table" "_undone_table" sUT f fd) (B : Bn mg) : FnOk P w K mg base CX0 1 f fd ["prime", "table", "behind"] spUT := by
  refine F.ok scUT (fun vs H Q E h => ?_) (fun cdv A outer s H vs Q E hr h => ?_)
  · obtain ⟨q, k, T, r, ta, bh, rfl, _⟩ := h
    rfl
  · obtain ⟨q, k, T, r, ta, bh, rfl, q2, q7, hta, hbh, hrl, hsz, hrt, kk⟩ := h
    obtain ⟨b1, b2, b3, b4, b5, b6, b7, b8, b9, b10, b11⟩ := B
    refine' ex_mk ?d ?_
    case d =>
      have nm := nm_of (CX := CX0) (P := P) (w := w) (K := K) (mg := mg) (base := base) (outer := outer) (H := H) (E := E) nmUT hr
      refine' pss_cons (ps_asg (pe_op op_rep ?a1 ?a2) ?a3) (pss_cons (n_for nm PassesOwn.never ?l1 ?fg (pss_one (ps_asg (pe_op op_mod (pe_un un_neg ?u1) ?u2) ?u3))) (pss_one ?s3))
      case a1 => walk_at "pe"
      case a2 => walk_at "pe"
      case a3 => walk_at "pg"
      case l1 => walk_at "pi"
      case fg => walk_at "pg"
      case u1 => walk_at "pe"
      case u2 => walk_at "pe"
      case u3 => walk_at "pg"
      case s3 => walk_at "ps"
    have hq : 0 < q := by omega
    have hsl : (20000 : Nat) < sizeLine := by rw [sizeLine_eq]; decide
    have hil : ((imgL q T k).map V.int).length = q ^ k := by rw [List.length_map, imgL_len]
    refine ⟨by show 1 ≤ sizeLine; decide, fun q0 hq0 => ?_⟩
    refine ⟨_, rfl, ta, _, rfl, .inr (SqT.of (same_new hq0 _ _ hta)), ?_⟩
    rw [List.length_map, hrl]
    refine ⟨q0, _, [.int 0], rfl, rfl, upd_same, by omega, by omega, by rw [Int.toNat_natCast]; show 1 * q ^ k ≤ sizeLine; omega, fun l hl => ?_⟩
    rw [Int.toNat_natCast, flat_rep0u]
    have sl : Same H (upd (upd H q0 (.lst [.int 0])) l (.lst ((List.replicate (q ^ k) (0 : Int)).map V.int))) := same_add (same_new hq0) hl
    have hl0 : H l = none := Same.free (same_new hq0) hl
    have hll : upd (upd H q0 (.lst [.int 0])) l (.lst ((List.replicate (q ^ k) (0 : Int)).map V.int)) l = some (.lst ((List.replicate (q ^ k) (0 : Int)).map V.int)) := upd_same
    generalize upd (upd H q0 (.lst [.int 0])) l (.lst ((List.replicate (q ^ k) (0 : Int)).map V.int)) = H1 at sl hll ⊢
    have ta1 := sl _ _ hta
    have bh1 := sl _ _ hbh
    refine ⟨_, rfl, _, rfl, ta, bh, _, _, rfl, SqT.of ta1, SqL.of bh1, ?_⟩
    refine for_pairs (xs := r.map V.int) (ys := (imgL q T k).map V.int) (pj_M (K := K) (S := fun H' => Same H H') (by rw [hil, List.length_map, hrl]) fun H' e => ⟨SqT.of (e _ _ hta), SqL.of (e _ _ hbh)⟩) (by rw [hil, List.length_map, hrl]) (fun i σ H' => Same H H' ∧ ∃ (U : List Int) (v4 v5 : Option V), σ = [some (.int (q : Int)), some (.ref ta), some (.ref bh), some (.ref l), v4, v5] ∧ H' l = some (.lst (U.map V.int)) ∧ U.length = q ^ k ∧ Figs q U ∧ ∀ j, j < i → U.getD (imM q T k j) 0 = (-ttM T k j) % (q : Int))
      ⟨sl, _, none, none, rfl, hll, List.length_replicate, fun d hd => by rw [List.eq_of_mem_replicate hd]; exact ⟨Int.le_refl 0, by omega⟩, fun j hj => absurd hj (Nat.not_lt_zero j)⟩ (fun i σ H' h => h.1) ?_ ?_
    · rintro i x y TT σ H2 hx hy ⟨s2, U, v4, v5, rfl, hU, hUl, hUf, hUa⟩ hTT
      obtain ⟨t0, ht0, rfl⟩ := int_of' hx
      obtain ⟨z0, hz0, rfl⟩ := int_of' hy
      obtain ⟨hi, rfl⟩ := imgL_of hz0
      have et : t0 = ttM T k i := by rw [← hrt, List.getD_eq_getElem?_getD, ht0]; rfl
      subst et
      have lt := imM_lt hq T k i hi
      have sT : Same H2 (upd H2 TT (.tup [.int (ttM T k i), .int ((imM q T k i : Nat) : Int)])) := same_new hTT
      refine ⟨TT, _, rfl, SqT.of upd_same, rfl, _, _, rfl, _, _, rfl, rfl, ?_⟩
      refine ⟨_, rfl, _, rfl, _, rfl, _, _, rfl, rfl, (by show (0 : Int) < (q : Int); omega), ?_⟩
      refine ⟨_, rfl, _, rfl, l, _, _, imM q T k i, rfl, rfl, sT _ _ hU, by rw [ixN_inu (by omega) (by rw [List.length_map, hUl]; omega)]; rfl, ?_⟩
      refine ⟨same_put (Same.trans s2 sT) hl0, U.set (imM q T k i) ((-ttM T k i) % (q : Int)), _, _, rfl, by rw [upd_same, List.map_set], by rw [List.length_set, hUl], fun d hd => ?_, fun j hj => ?_⟩
      · rcases List.mem_or_eq_of_mem_set hd with h | h
        · exact hUf d h
        · rw [h]; exact ⟨Int.emod_nonneg _ (by omega), Int.emod_lt_of_pos _ (by omega)⟩
      · rw [List.getD_eq_getElem?_getD, List.getElem?_set]
        by_cases c : imM q T k i = imM q T k j
        · rw [if_pos c, if_pos (by rw [hUl]; exact lt)]
          have e := imM_inj hq T k i j hi (by omega) c
          rw [e]; rfl
        · rw [if_neg c, ← List.getD_eq_getElem?_getD]
          refine hUa j ?_
          rcases Nat.lt_or_ge j i with h | h
          · exact h
          · exact absurd (by rw [show j = i by omega]) c
    · rintro σ H2 ⟨s2, U, v4, v5, rfl, hU, hUl, hUf, hUa⟩
      rw [List.length_map, hrl] at hUa
      exact ⟨_, rfl, kk _ l U s2 hl0 hU hUl hUf hUa⟩
end

/-! ### turners as relabellings: their tables -/
def lvM (q : Nat) (M : Mach) (st : Int) : Nat → Nat → Int
  | 0, _ => st
  | k + 1, j => goM M (lvM q M st k (j % q ^ k)) ((j / q ^ k : Nat) : Int)
def tabM (q : Nat) (M : Mach) (st : Int) (n : Nat) : List (List Int) := (List.range n).map fun k => (List.range (q ^ k)).map fun j => turnM M (lvM q M st k j)
theorem tabM_len (q : Nat) (M : Mach) (st : Int) (n : Nat) : (tabM q M st n).length = n := by unfold tabM; rw [List.length_map, List.length_range]
theorem tabM_row {q n k : Nat} {M : Mach} {st : Int} {r : List Int} (h : (tabM q M st n)[k]? = some r) : k < n ∧ r = (List.range (q ^ k)).map fun j => turnM M (lvM q M st k j) := by
  unfold tabM at h
  rw [List.getElem?_map] at h
  by_cases c : k < n
  · rw [List.getElem?_range c] at h
    exact ⟨c, (Option.some.inj h).symm⟩
  · rw [List.getElem?_eq_none (by rw [List.length_range]; omega)] at h
    cases h
theorem tabM_tt {q n k j : Nat} {M : Mach} {st : Int} (hk : k < n) (hj : j < q ^ k) : ttM (tabM q M st n) k j = turnM M (lvM q M st k j) := by
  have e : (tabM q M st n).getD k [] = (List.range (q ^ k)).map fun j => turnM M (lvM q M st k j) := by
    unfold tabM
    rw [List.getD_eq_getElem?_getD, List.getElem?_map, List.getElem?_range hk]; rfl
  unfold ttM
  rw [e, List.getD_eq_getElem?_getD, List.getElem?_map, List.getElem?_range hj]; rfl
theorem lvM_in {q : Nat} (hq : 0 < q) {M : Mach} {st : Int} (h : OkM (q : Int) (M.length : Int) M) (s0 : 0 ≤ st) (s1 : st < (M.length : Int)) : ∀ (k j : Nat), j < q ^ k → 0 ≤ lvM q M st k j ∧ lvM q M st k j < (M.length : Int)
  | 0, _, _ => ⟨s0, s1⟩
  | k + 1, j, hj => by
    rw [Nat.pow_succ] at hj
    obtain ⟨a1, a2, _⟩ := dm_mk (Nat.pow_pos hq) hj
    obtain ⟨b0, b1⟩ := lvM_in hq h s0 s1 k _ a1
    exact goM_in h rfl b0 b1 (Int.natCast_nonneg _) (Int.ofNat_lt.mpr a2)
theorem val_step {q : Nat} {ds : List Int} (hF : Figs q ds) {k : Nat} (hk : k < ds.length) : ∃ v x : Nat, valD q (ds.take k) = (v : Int) ∧ ds[k]'hk = (x : Int) ∧ v < q ^ k ∧ x < q ∧ valD q (ds.take (k + 1)) = ((v + x * q ^ k : Nat) : Int) := by
  have hd := hF _ (List.getElem_mem hk)
  have hq : 0 < q := by omega
  have hl0 : ds.length = (List.replicate ds.length ([] : List Int)).length := by rw [List.length_replicate]
  obtain ⟨h0, h1, _⟩ := nam_val (T := List.replicate ds.length []) hq hF hl0 k (by omega)
  obtain ⟨x, hx⟩ : ∃ x : Nat, ds[k]'hk = (x : Int) := ⟨(ds[k]'hk).toNat, by omega⟩
  obtain ⟨v, hv⟩ : ∃ v : Nat, valD q (ds.take k) = (v : Int) := ⟨(valD q (ds.take k)).toNat, by omega⟩
  rw [hv, Int.toNat_natCast] at h1
  refine ⟨v, x, hv, hx, h1, by omega, ?_⟩
  rw [snoc_of hk, valD_snoc, hv, hx, List.length_take, Nat.min_eq_left (by omega), Int.natCast_add, Int.natCast_mul, Int.natCast_pow]
theorem lvM_run {q : Nat} {M : Mach} {st : Int} {ds : List Int} (hF : Figs q ds) : ∀ k, k ≤ ds.length → lvM q M st k (valD q (ds.take k)).toNat = runM M st (ds.take k)
  | 0, _ => rfl
  | k + 1, hk => by
    have hkl : k < ds.length := by omega
    obtain ⟨v, x, h1, h2, h3, h4, h5⟩ := val_step hF hkl
    have ih := lvM_run (M := M) (st := st) hF k (by omega)
    rw [h1, Int.toNat_natCast] at ih
    rw [h5, Int.toNat_natCast, snoc_of hkl, runM_snoc, ← ih, h2]
    show goM M (lvM q M st k ((v + x * q ^ k) % q ^ k)) (((v + x * q ^ k) / q ^ k : Nat) : Int) = _
    rw [dm_mod h3, dm_div h3]
theorem wayM_get (M : Mach) : ∀ (ds : List Int) (s : Int) (k : Nat), k < ds.length → (wayM M s ds)[k]? = some (runM M s (ds.take k))
  | [], _, k, h => absurd h (Nat.not_lt_zero k)
  | d :: r, s, 0, _ => rfl
  | d :: r, s, k + 1, h => by
    show (wayM M (goM M s d) r)[k]? = some (runM M (goM M s d) (r.take k))
    exact wayM_get M r _ k (Nat.lt_of_succ_lt_succ h)
theorem beh_nam {q n : Nat} {M : Mach} {st : Int} {ds : List Int} (hF : Figs q ds) (hl : ds.length = n) : behM q M st ds = namM q (tabM q M st n) ds := by
  have hl2 : ds.length = (tabM q M st n).length := by rw [tabM_len, hl]
  refine List.ext_getElem (by rw [behM_len, nam_len hl2]) fun k h1 h2 => ?_
  have hk : k < ds.length := by rw [behM_len] at h1; exact h1
  obtain ⟨v, x, e1, e2, e3, e4, e5⟩ := val_step hF hk
  have hr := lvM_run (M := M) (st := st) hF k (by omega)
  rw [nam_at hl2 hk, e1, Int.toNat_natCast, tabM_tt (by omega) e3]
  rw [e1, Int.toNat_natCast] at hr
  rw [hr]
  have a : (behM q M st ds)[k]? = some ((ds[k]'hk + turnM M (runM M st (ds.take k))) % (q : Int)) := by
    unfold behM
    rw [List.getElem?_zipWith, List.getElem?_eq_getElem hk, wayM_get M ds st k hk]
  rw [List.getElem?_eq_getElem h1] at a
  exact Option.some.inj a
/-- both ways, as numbers -/
def ldB (q n : Nat) (T A B : List (List Int)) : Bool := (List.range (q ^ n)).all fun j => decide (imM q T n (imM q A n j) = imM q B n (imM q T n j))
theorem ways_num {q n : Nat} (hq : 0 < q) {T A B : List (List Int)} {ds : List Int} (hT : T.length = n) (hA : A.length = n) (hB : B.length = n) (hF : Figs q ds) (hl : ds.length = n) : (namM q T (namM q A ds) = namM q B (namM q T ds)) ↔ imM q T n (imM q A n (valD q ds).toNat) = imM q B n (imM q T n (valD q ds).toNat) := by
  have l1 : ds.length = A.length := by omega
  have l2 : ds.length = T.length := by omega
  have fA := nam_figs (p := (q : Int)) (T := A) (ds := ds) (by omega)
  have fT := nam_figs (p := (q : Int)) (T := T) (ds := ds) (by omega)
  have n1 := nam_len (p := (q : Int)) l1
  have n2 := nam_len (p := (q : Int)) l2
  have a := nam_num hq hF l1
  have b := nam_num hq hF l2
  have c := nam_num hq fA (T := T) (by rw [n1, hl, hT])
  have d := nam_num hq fT (T := B) (by rw [n2, hl, hB])
  rw [a.2.2, Int.toNat_natCast, n1, hl] at c
  rw [b.2.2, Int.toNat_natCast, n2, hl] at d
  constructor
  · intro e
    have := c.2.2
    rw [e, d.2.2] at this
    exact (Int.ofNat.inj this).symm
  · intro e
    refine valD_inj hq (nam_figs (by omega)) (nam_figs (by omega)) (by rw [nam_len (T := T) (ds := namM q A ds) (by rw [n1, hl, hT]), nam_len (T := B) (ds := namM q T ds) (by rw [n2, hl, hB]), n1, n2]) ?_
    rw [c.2.2, d.2.2, e]
theorem all_list {n : Nat} {f g : Nat → Nat} : decide ((List.range n).map (fun j => ((f j : Nat) : Int)) = (List.range n).map (fun j => ((g j : Nat) : Int))) = (List.range n).all fun j => decide (f j = g j) := by
  rw [Bool.eq_iff_iff, decide_eq_true_eq, List.all_eq_true]
  constructor
  · intro h j hj
    have := List.map_inj_left.mp h j hj
    exact decide_eq_true (Int.ofNat.inj this)
  · intro h
    exact List.map_congr_left fun j hj => by rw [of_decide_eq_true (h j hj)]

/-- rows chosen one by one -/
theorem rows_choose {ys : List V} {Pr : Nat → V → List Int → Prop} (h : ∀ (i : Nat) y, ys[i]? = some y → ∃ U, Pr i y U) : ∃ UL : List (List Int), UL.length = ys.length ∧ ∀ (i : Nat) y U, ys[i]? = some y → UL[i]? = some U → Pr i y U := by
  classical
  refine ⟨(List.range ys.length).map fun i => if hi : i < ys.length then (h i ys[i] (List.getElem?_eq_getElem hi)).choose else [], by rw [List.length_map, List.length_range], fun i y U h1 h2 => ?_⟩
  have hi := (List.getElem?_eq_some_iff.mp h1).1
  rw [List.getElem?_map, List.getElem?_range hi] at h2
  have e := Option.some.inj h2
  simp only [dif_pos hi] at e
  have z := (h i ys[i] (List.getElem?_eq_getElem hi)).choose_spec
  rw [e] at z
  rw [List.getElem?_eq_getElem hi] at h1
  rw [← Option.some.inj h1]
  exact z
theorem OkR.like {q : Nat} {T U : List (List Int)} (h : OkR (q : Int) T) (hl : U.length = T.length) (h1 : ∀ (i : Nat) r, U[i]? = some r → r.length = q ^ i) (h2 : ∀ r ∈ U, Figs q r) : OkR (q : Int) U := by
  refine ⟨h.pr, fun i r e => by rw [h1 i r e, Int.natCast_pow], h2, by rw [hl]; exact h.le, fun r hr => ?_, by rw [hl]; exact h.few⟩
  obtain ⟨i, hi⟩ := List.getElem?_of_mem hr
  have hiT : i < T.length := by rw [← hl]; exact (List.getElem?_eq_some_iff.mp hi).1
  have a := h1 i r hi
  have b := (h.b.row (List.getElem?_eq_getElem hiT)).1
  have c := h.sz _ (List.getElem_mem hiT)
  omega
theorem no_bh (p : Int) (t : Addr) : (rf p t).lookup ("_behind" : Str) = none := rf_no p t (by decide +kernel) (by decide +kernel)
section
variable {P : Program} {w : World} {K : PySem.W.Frag} {mg : Str → Option Value} {base : Heap} {C CPD CIC : Addr}
theorem scRInv : FnScope ["self", "tables", "dial", "table"] ["self"] (defScope sRInv) := ⟨rfl, rfl, rfl, by decide +kernel, rfl, by decide +kernel, by decide +kernel⟩
theorem nmRInv : nmB ["self", "tables", "dial", "table"] [("self", 0), ("tables", 1)] ["enumerate", "Relabelling"] (defScope sRInv) = true := by decide +kernel
theorem ok_rinv {f : Addr} {fd : FuncData} (F : Fun K "inverse" "Relabelling.inverse" sRInv f fd) (B : Bn mg) (T' : Rc K C) (mgC : mg "Relabelling" = some (.ref C)) (DU : Df P w K mg base 1 "_undone_table" ["prime", "table", "behind"] spUT) (EB : Mf P w K mg base 2 C "_behind" ["self", "dials"] (spRBh C)) (KN : Kdl P w K mg base 5 C ["self", "prime", "tables"] (spRIn C)) : FnOk P w K mg base CX0 7 f fd ["self"] (spRInv C) := by
  refine F.ok scRInv (fun vs H Q E h => ?_) (fun cdv A outer s H vs Q E hr h => ?_)
  · obtain ⟨x, q, T, rfl, _⟩ := h
    rfl
  · obtain ⟨x, q, T, rfl, hT, hO, kk⟩ := h
    have hcl := T'.cl
    obtain ⟨b1, b2, b3, b4, b5, b6, b7, b8, b9, b10, b11⟩ := B
    refine' ex_mk ?d ?_
    case d =>
      have nm := nm_of (CX := CX0) (P := P) (w := w) (K := K) (mg := mg) (base := base) (outer := outer) (H := H) (E := E) nmRInv hr
      refine' pss_cons ?lc (pss_one (ps_ret (n_mkA nm mgC KN (by decide) ?g1 (pa_cons ?a1 (pa_cons ?a2 pa_nil)))))
      case lc =>
        refine' n_setLc (i := 1) (own := [("dial", 2), ("table", 3)]) (g := gTup K 2 (gCons (gName 2) (gCons (gName 3) gNil))) (NS' := [("self", 0), ("dial", 2), ("table", 3)]) (WS' := [("dial", 2), ("table", 3)]) (G' := ["_undone_table"]) (N := ["self", "tables", "dial", "table"]) (scD := defScope sRInv) nm (by walk_at "mem") rfl rfl rfl (by decide +kernel) (by decide +kernel) (sw_true rfl rfl rfl (by decide +kernel)) (n_enumT nm b10 ?g (pa_cons ?e pa_nil)) (fun X' nm2 => ?lg) (fun X' nm2 => n_d nm2 DU (by decide) ?u0 (pa_cons ?u1 (pa_cons ?u2 (pa_cons (n_m nm2 hcl EB (by decide) ?u3 (pa_cons ?u4 pa_nil)) pa_nil))))
        case g => walk_at "mem"
        case e => walk_at "pe"
        case lg => walk_at "pg"
        case u0 => walk_at "mem"
        case u1 => walk_at "pe"
        case u2 => walk_at "pe"
        case u3 => walk_at "pe"
        case u4 => walk_at "pe"
      case g1 => walk_at "mem"
      case a1 => walk_at "pe"
      case a2 => walk_at "pe"
    obtain ⟨dx, t, xs, h1, h2, h3⟩ := id hT
    have hp2 := hO.pr.two
    have hle := hO.le
    have hxl : xs.length = T.length := h3.1
    refine ⟨_, rfl, x, C, dx, _, _, rfl, h1, T'.cl, T'.nT, rf_t _ _, t, xs, rfl, SqT.of h2, fun Dl hD => ?_⟩
    refine lcEN (K := K) (R := fun i y H2 => ∃ (b : Addr) (U : List Int), y = .ref b ∧ b ≠ Dl ∧ H2 b = some (.lst (U.map V.int)) ∧ U.length = q ^ i ∧ Figs q U ∧ ∀ j, j < q ^ i → U.getD (imM q T i j) 0 = (-ttM T i j) % (q : Int)) (en_T (K := K) fun H' e => SqT.of (e _ _ h2)) hD (small1000 (by omega)) (fun i y H1 H' e h => by
      obtain ⟨b, U, e1, e2, e3, e4⟩ := h
      exact ⟨b, U, e1, e2, e _ _ e3, e4⟩) (fun i y H1 zs h => by
      obtain ⟨b, U, e1, e2, e3, e4⟩ := h
      exact ⟨b, U, e1, e2, by rw [upd_ne e2]; exact e3, e4⟩) ?_ ?_ (gm_tup (gms_cons gm_nm (gms_cons gm_nm gms_nil)))
    · intro j v TT H' Qk hv s1 hTT hys k2
      obtain ⟨zs, hDl⟩ := hys
      have hj : j < T.length := by rw [← hxl]; exact (List.getElem?_eq_some_iff.mp hv).1
      have hTj : T[j]? = some (T[j]'hj) := List.getElem?_eq_getElem hj
      obtain ⟨b, rfl, hb⟩ := h3.2 j v _ hv hTj
      obtain ⟨hr1, hr2⟩ := hO.b.row hTj
      have s3 : Same H (upd H' TT (.tup [.int (j : Nat), .ref b])) := same_add s1 hTT
      refine ⟨TT, _, rfl, SqT.of upd_same, rfl, _, _, rfl, _, _, rfl, rfl, rfl, ?_⟩
      have hDl4 := same_new (o := .tup [.int (j : Nat), .ref b]) hTT _ _ hDl
      generalize upd H' TT (.tup [.int (j : Nat), .ref b]) = H4 at s3 k2 hDl4 ⊢
      refine ⟨_, rfl, x, C, dx, _, _, rfl, s3 _ _ h1, T'.cl, T'.nP, rf_p _ _, _, rfl, _, rfl, x, dx, _, rfl, s3 _ _ h1, no_bh _ _, _, rfl, ?_⟩
      refine ⟨x, q, j, T, rfl, hT.same s3, hO.b, Nat.le_of_lt hj, fun H6 t6 s6 ht6 hi6 => ?_⟩
      refine ⟨q, j, T, _, b, t6, rfl, by omega, by omega, s6 _ _ (s3 _ _ hb), hi6, hr1, hr2, tt_row hTj, fun H7 t7 U s7 ht7 hU hUl hUf hUa => ?_⟩
      have s67 := Same.trans s6 s7
      exact k2 _ _ s67 ⟨t7, U, rfl, (ne_of_none (s6 _ _ hDl4) ht7).symm, hU, hUl, hUf, hUa⟩
    · intro ys H3 s3 hDl hyl hRR
      obtain ⟨UL, hUL, hU⟩ := rows_choose (Pr := fun i y U => ∃ b : Addr, y = .ref b ∧ b ≠ Dl ∧ H3 b = some (.lst (U.map V.int)) ∧ U.length = q ^ i ∧ Figs q U ∧ ∀ j, j < q ^ i → U.getD (imM q T i j) 0 = (-ttM T i j) % (q : Int)) (fun i y h => by
        obtain ⟨b, U, z⟩ := hRR i y h
        exact ⟨U, b, z⟩)
      have hUT : UL.length = T.length := by rw [hUL, hyl, hxl]
      have hUi : ∀ (i : Nat) U, UL[i]? = some U → U.length = q ^ i ∧ Figs q U ∧ ∀ j, j < q ^ i → U.getD (imM q T i j) 0 = (-ttM T i j) % (q : Int) := fun i U h => by
        have hi : i < ys.length := by rw [← hUL]; exact (List.getElem?_eq_some_iff.mp h).1
        obtain ⟨b, _, _, _, z⟩ := hU i _ U (List.getElem?_eq_getElem hi) h
        exact z
      have hOU : OkR (q : Int) UL := hO.like hUT (fun i r h => (hUi i r h).1) fun r hr => by
        obtain ⟨i, hi⟩ := List.getElem?_of_mem hr
        exact (hUi i r hi).2.1
      have hRU : RowsL H3 ys UL := ⟨hUL.symm, fun i v r e1 e2 => by
        obtain ⟨b, e3, _, e4, _⟩ := hU i v r e1 e2
        exact ⟨b, e3, .inl e4⟩⟩
      refine ⟨_, rfl, x, C, dx, _, _, rfl, s3 _ _ h1, T'.cl, T'.nP, rf_p _ _, _, rfl, ?_⟩
      intro z dz nz ndz ne
      have s7 : Same H3 (upd (upd H3 dz (.own z)) z (.ins C dz [])) := fun c o e => by
        rw [upd_ne (ne_of_none e nz), upd_ne (ne_of_none e ndz)]; exact e
      have hz0 : H z = none := Same.free s3 nz
      refine ⟨z, dz, (q : Int), Dl, ys, UL, rfl, upd_same, .inl (s7 _ _ hDl), hRU.same s7, hOU, fun H8 t' zs hk ht hRT hzz => ⟨rfl, ?_⟩⟩
      refine kk H8 z UL (fun c o e => hk c o (ne_of_none e hz0) (s7 _ _ (s3 _ _ e))) hz0 ⟨dz, t', zs, hzz, ht, hRT⟩ hOU hUT fun k j hk hj => ?_
      have e : UL[k]? = some (UL[k]'(by rw [hUT]; exact hk)) := List.getElem?_eq_getElem _
      rw [← tt_row e]
      exact (hUi k _ e).2.2 j hj
end

/-! numbers behind a turner -/
theorem beh_num {q n k : Nat} (hq : 0 < q) {M : Mach} {st : Int} {ds : List Int} (hF : Figs q ds) (hl : ds.length = n) (hv : valD q ds = (k : Int)) : valD q (behM q M st ds) = ((imM q (tabM q M st n) n k : Nat) : Int) := by
  have h := nam_num (T := tabM q M st n) hq hF (by rw [tabM_len, hl])
  rw [beh_nam (n := n) hF hl, h.2.2, hv, Int.toNat_natCast, hl]

/-! ### the round of zeros under a single turner holds every setting -/
theorem valD_zeros (p : Int) : ∀ n : Nat, valD p (List.replicate n 0) = 0
  | 0 => rfl
  | n + 1 => by
    show valD p (List.replicate n 0) * p + 0 = 0
    rw [valD_zeros p n]; simp
theorem figs_zeros {q : Nat} (hq : 0 < q) (n : Nat) : Figs (q : Int) (List.replicate n 0) := fun d hd => by
  rw [List.eq_of_mem_replicate hd]
  exact ⟨Int.le_refl 0, by omega⟩
theorem itB_num {q n : Nat} {M : Mach} {st : Int} (hP : IsP (q : Int)) : ∀ i, valD q (itB q M st n i) = ((itF (imM q (tabM q M st n) n) i 0 : Nat) : Int)
  | 0 => valD_zeros _ _
  | i + 1 => by
    have hq : 0 < q := by have := hP.two; omega
    show valD q (behM q M st (itB q M st n i)) = ((imM q (tabM q M st n) n (itF (imM q (tabM q M st n) n) i 0) : Nat) : Int)
    exact beh_num hq (itB_figs hP n i) (itB_len n i) (itB_num hP i)
theorem itB_zero {q n i : Nat} {M : Mach} {st : Int} (hP : IsP (q : Int)) : itB q M st n i = List.replicate n 0 ↔ itF (imM q (tabM q M st n) n) i 0 = 0 := by
  have hq : 0 < q := by have := hP.two; omega
  have e := itB_num (M := M) (st := st) (n := n) hP i
  constructor
  · intro h
    rw [h, valD_zeros] at e
    omega
  · intro h
    rw [h] at e
    exact valD_inj hq (itB_figs hP n i) (figs_zeros hq n) (by rw [itB_len, List.length_replicate]) (by rw [e, valD_zeros]; rfl)
theorem full_mem {N : Nat} {l : List Nat} (hn : l.Nodup) (hl : l.length = N) (hb : ∀ x ∈ l, x < N) {k : Nat} (hk : k < N) : k ∈ l := by
  by_cases c : k ∈ l
  · exact c
  · have := nodup_natLe (l := k :: l) (N := N) (List.nodup_cons.mpr ⟨c, hn⟩) (fun x hx => by
      rcases List.mem_cons.mp hx with e | e
      · rw [e]; exact hk
      · exact hb x e)
    rw [List.length_cons] at this
    omega
/-- every number has its place in a round as long as there are numbers -/
theorem orb_place {f : Nat → Nat} {N k : Nat} (hf : InjN f N) (h0 : 0 < N) (o : Orb f 0 N) (hk : k < N) : ∃ i, i < N ∧ itF f i 0 = k ∧ ∀ m, m < i → itF f m 0 ≠ k := by
  obtain ⟨i, hi, e⟩ := orbL_mem (full_mem (orbL_nodup hf h0 o) (orbL_len f 0 N) (fun x hx => by
    obtain ⟨i, hi, rfl⟩ := orbL_mem hx
    exact itF_lt hf h0 i) hk)
  refine ⟨i, hi, e.symm, fun m hm e2 => ?_⟩
  have nd := orbL_nodup hf h0 o
  unfold orbL at nd
  have : (List.range N).Nodup := List.nodup_range
  have hp := List.pairwise_map.mp nd
  rw [List.pairwise_iff_getElem] at hp
  have := hp m i (by rw [List.length_range]; omega) (by rw [List.length_range]; omega) hm
  rw [List.getElem_range, List.getElem_range] at this
  exact this (by rw [e2, e])
abbrev sTO : Stmt := top 40
def spTO (C : Addr) : Sp := fun vs H Q _ => ∃ (x : Addr) (q k : Nat) (M : Mach) (st : Int), vs = [.ref x, .int (k : Int)] ∧ TurAt C H x (q : Int) M st ∧ OkT (q : Int) M st ∧ q ^ k ≤ 20000 ∧ k ≤ 200 ∧
  ∀ H' r ys, Same H H' → H r = none → H' r = some (.lst ys) → RowsLi H' ys (tabM q M st k) → (∀ c, V.ref c ∈ ys → H c = none ∧ c ≠ r) → Q (.ref r) H'
def lwL (q : Nat) (M : Mach) (st : Int) (k : Nat) : List Int := (List.range (q ^ k)).map fun j => lvM q M st k j
def rwL (q : Nat) (M : Mach) (st : Int) (k : Nat) : List Int := (List.range (q ^ k)).map fun j => turnM M (lvM q M st k j)
theorem lwL_len (q : Nat) (M : Mach) (st : Int) (k : Nat) : (lwL q M st k).length = q ^ k := by unfold lwL; rw [List.length_map, List.length_range]
theorem rwL_len (q : Nat) (M : Mach) (st : Int) (k : Nat) : (rwL q M st k).length = q ^ k := by unfold rwL; rw [List.length_map, List.length_range]
theorem lwL_at {q k j : Nat} {M : Mach} {st z : Int} (h : (lwL q M st k)[j]? = some z) : j < q ^ k ∧ z = lvM q M st k j := by
  have hj : j < q ^ k := by
    have := (List.getElem?_eq_some_iff.mp h).1
    rw [lwL_len] at this
    exact this
  unfold lwL at h
  rw [List.getElem?_map, List.getElem?_range hj] at h
  exact ⟨hj, (Option.some.inj h).symm⟩
theorem rwL_at {q k j : Nat} {M : Mach} {st z : Int} (h : (rwL q M st k)[j]? = some z) : j < q ^ k ∧ z = turnM M (lvM q M st k j) := by
  have hj : j < q ^ k := by
    have := (List.getElem?_eq_some_iff.mp h).1
    rw [rwL_len] at this
    exact this
  unfold rwL at h
  rw [List.getElem?_map, List.getElem?_range hj] at h
  exact ⟨hj, (Option.some.inj h).symm⟩
theorem lwL_step {q k i j : Nat} {M : Mach} {st z : Int} (hj : j < q ^ k) (h : (lwL q M st (k + 1))[i * q ^ k + j]? = some z) : z = goM M (lvM q M st k j) (i : Int) := by
  obtain ⟨_, rfl⟩ := lwL_at h
  show goM M (lvM q M st k ((i * q ^ k + j) % q ^ k)) (((i * q ^ k + j) / q ^ k : Nat) : Int) = _
  rw [Nat.add_comm (i * q ^ k) j, dm_mod hj, dm_div hj]
theorem tabM_succ (q : Nat) (M : Mach) (st : Int) (k : Nat) : tabM q M st (k + 1) = tabM q M st k ++ [rwL q M st k] := by
  unfold tabM
  rw [List.range_succ, List.map_append]; rfl
theorem rowsLi_snocG {H3 H7 : Hp} {ys : List V} {T : List (List Int)} {row : List Int} {D t : Addr} {zs : List V} (h : RowsLi H3 ys T) (hne : ∀ c, V.ref c ∈ ys → c ≠ D) (s : Same H3 H7) (nt : t ≠ D) (ht : H7 t = some (.lst (row.map V.int))) : RowsLi (upd H7 D (.lst zs)) (ys ++ [.ref t]) (T ++ [row]) := by
  refine ⟨by rw [List.length_append, List.length_append, h.1]; rfl, fun k v r e1 e2 => ?_⟩
  by_cases c : k < ys.length
  · rw [List.getElem?_append_left c] at e1
    rw [List.getElem?_append_left (by rw [← h.1]; exact c)] at e2
    obtain ⟨a, rfl, ha⟩ := h.2 k v r e1 e2
    exact ⟨a, rfl, by rw [upd_ne (hne a (List.mem_of_getElem? e1))]; exact s _ _ ha⟩
  · have e5 : k = ys.length := by
      have := (List.getElem?_eq_some_iff.mp e1).1
      rw [List.length_append] at this
      simp at this
      omega
    subst e5
    rw [List.getElem?_append_right (Nat.le_refl _), Nat.sub_self] at e1
    rw [h.1, List.getElem?_append_right (Nat.le_refl _), Nat.sub_self] at e2
    obtain rfl := Option.some.inj e1
    obtain rfl := Option.some.inj e2
    exact ⟨t, rfl, by rw [upd_ne nt]; exact ht⟩
theorem rowsLi_keep' {H H' : Hp} {ys : List V} {T : List (List Int)} (h : RowsLi H ys T) (k : ∀ c, V.ref c ∈ ys → ∀ o, H c = some o → H' c = some o) : RowsLi H' ys T := ⟨h.1, fun i v r e1 e2 => by
  obtain ⟨a, rfl, e4⟩ := h.2 i v r e1 e2
  exact ⟨a, rfl, k a (List.mem_of_getElem? e1) _ e4⟩⟩
theorem no_stsT (p : Int) (t : Addr) (st : Int) : (tf p t st).lookup ("states" : Str) = none := tf_no p t st (by decide +kernel) (by decide +kernel) (by decide +kernel)
section
variable {P : Program} {w : World} {K : PySem.W.Frag} {mg : Str → Option Value} {base : Heap} {C : Addr}
theorem scTO : FnScope ["turner", "dials", "states", "prime", "tables", "level", "_", "state", "figure"] ["turner", "dials"] (defScope sTO) := ⟨rfl, rfl, rfl, by decide +kernel, rfl, by decide +kernel, by decide +kernel⟩
theorem nmTO : nmB ["turner", "dials", "states", "prime", "tables", "level", "_", "state", "figure"] [("turner", 0), ("dials", 1), ("states", 2), ("prime", 3), ("tables", 4), ("level", 5), ("_", 6)] ["range"] (defScope sTO) = true := by decide +kernel
theorem ok_to {f : Addr} {fd : FuncData} (F : Fun K "tables_of" "tables_of" sTO f fd) (B : Bn mg) (T' : Tc K C) (ES : Mf P w K mg base 1 C "states" ["self"] (spSts C)) (EP : Pf P w K mg base 1 C "prime" ["self"] (getSp C "_prime")) (ET : Pf P w K mg base 1 C "start" ["self"] (getSp C "_start")) : FnOk P w K mg base CX0 3 f fd ["turner", "dials"] (spTO C) := by
  refine F.ok scTO (fun vs H Q E h => ?_) (fun cdv A outer s H vs Q E hr h => ?_)
  · obtain ⟨x, q, k, M, st, rfl, _⟩ := h
    rfl
  · obtain ⟨x, q, k, M, st, rfl, hT, hO, hsz, hk, kk⟩ := h
    have hcl := T'.cl
    obtain ⟨b1, b2, b3, b4, b5, b6, b7, b8, b9, b10, b11⟩ := B
    refine' ex_mk ?d ?_
    case d =>
      have nm := nm_of (CX := CX0) (P := P) (w := w) (K := K) (mg := mg) (base := base) (outer := outer) (H := H) (E := E) nmTO hr
      refine' pss_cons (ps_asg (pe_tup (pa_cons (n_m0 nm hcl ES (by decide) ?a1) (pa_cons (n_p nm hcl EP (by decide) ?a2) pa_nil))) ?a3) (pss_cons ?s2 (pss_cons (ps_asg (pe_lst (pa_cons (n_p nm hcl ET (by decide) ?c1) pa_nil)) ?c2)
        (pss_cons (n_for nm PassesOwn.never ?fi ?fg (pss_cons (ps_expr (pe_bm PySem.F.plainAttrs_list PySem.F.slot_list_append PySem.F.type_list_append mt_append ?m1 (pa_cons ?lc pa_nil))) (pss_one (ps_asg ?lc2 ?g4)))) (pss_one ?s5))))
      case a1 => walk_at "pe"
      case a2 => walk_at "pe"
      case a3 => walk_at "pg"
      case s2 => walk_at "ps"
      case c1 => walk_at "pe"
      case c2 => walk_at "pg"
      case fi => walk_at "pi"
      case fg => walk_at "pg"
      case m1 => walk_at "pe"
      case lc =>
        refine' n_lc (own := [("state", 7)]) (g := gName 7) (NS' := [("states", 2), ("state", 7)]) (WS' := [("state", 7)]) (G' := []) (N := ["turner", "dials", "states", "prime", "tables", "level", "_", "state", "figure"]) (scD := defScope sTO) nm rfl rfl (by decide +kernel) (by decide +kernel) (pi_list ?li) (fun X' nm2 => ?lg) (fun X' nm2 => n_ixT nm2 (n_ixL nm2 ?e1 ?e2 (fun _ _ => rfl)) pe_int (fun _ _ => rfl))
        case li => walk_at "pe"
        case lg => walk_at "pg"
        case e1 => walk_at "pe"
        case e2 => walk_at "pe"
      case lc2 =>
        refine' n_lc2 (own := [("figure", 8), ("state", 7)]) (vs1 := [7]) (g := gName 8) (g1 := gName 7) (NS' := [("states", 2), ("level", 5), ("state", 7), ("figure", 8)]) (WS' := [("state", 7), ("figure", 8)]) (G' := []) (N := ["turner", "dials", "states", "prime", "tables", "level", "_", "state", "figure"]) (scD := defScope sTO) nm rfl rfl (by decide +kernel) (by decide +kernel) (by decide) (n_rng nm b6 ?rg (pa_cons ?ra pa_nil)) (fun X' nm2 => ?lg) (fun X' nm2 => n_piL nm2 ?li) (fun X' nm2 => ?lg2) (fun X' nm2 => n_ixT nm2 (n_ixT nm2 (n_ixL nm2 ?e1 ?e2 (fun _ _ => rfl)) pe_int (fun _ _ => rfl)) ?e3 (fun _ _ => rfl))
        case rg => walk_at "mem"
        case ra => walk_at "pe"
        case lg => walk_at "pg"
        case li => walk_at "pe"
        case lg2 => walk_at "pg"
        case e1 => walk_at "pe"
        case e2 => walk_at "pe"
        case e3 => walk_at "pe"
      case g4 => walk_at "pg"
      case s5 => walk_at "ps"
    obtain ⟨dx, tx, xx, h1, h2, h3⟩ := id hT
    have hp2 := hO.pr.two
    have hq : 0 < q := by omega
    have hle := hO.le
    have hsl : (20000 : Nat) < sizeLine := by rw [sizeLine_eq]; decide
    refine ⟨_, rfl, x, dx, _, rfl, h1, no_stsT _ _ _, x, _, M, st, rfl, hT, fun H1 r0 xs s1 hr00 hr0 hS => ?_⟩
    refine ⟨_, rfl, x, dx, _, rfl, s1 _ _ h1, x, dx, _, _, rfl, s1 _ _ h1, tf_p _ _ _, ?_⟩
    refine ⟨by show 2 ≤ sizeLine; decide, fun q6 hq6 => ?_⟩
    have s2 := same_new (o := .tup [.ref r0, .int (q : Int)]) hq6
    refine ⟨q6, _, rfl, SqT.of upd_same, rfl, _, _, rfl, _, _, rfl, rfl, ?_⟩
    generalize upd H1 q6 (.tup [.ref r0, .int (q : Int)]) = H2 at s2 ⊢
    have s02 := Same.trans s1 s2
    refine ⟨by show 0 ≤ sizeLine; decide, fun tb htb => ?_⟩
    have s3 := same_new (o := .lst []) htb
    have etb : upd H2 tb (.lst []) tb = some (.lst []) := upd_same
    have htb0 : H tb = none := Same.free s02 htb
    generalize upd H2 tb (.lst []) = H3 at s3 etb ⊢
    have s03 := Same.trans s02 s3
    refine ⟨_, rfl, x, dx, _, rfl, s03 _ _ h1, x, dx, _, _, rfl, s03 _ _ h1, tf_t _ _ _, by show 1 ≤ sizeLine; decide, fun lv hlv => ?_⟩
    have s4 := same_new (o := .lst [.int st]) hlv
    have elv : upd H3 lv (.lst [.int st]) lv = some (.lst ((lwL q M st 0).map V.int)) := upd_same
    have etb4 := s4 _ _ etb
    have ntb : lv ≠ tb := (ne_of_none etb hlv).symm
    have hlv0 : H lv = none := Same.free s03 hlv
    generalize upd H3 lv (.lst [.int st]) = H4 at s4 elv etb4 ⊢
    have s04 := Same.trans s03 s4
    have hr4 := s4 _ _ (s3 _ _ (s2 _ _ hr0))
    have hS4 := ((hS.same s2).same s3).same s4
    refine ⟨_, rfl, _, rfl, by omega, by omega, ?_⟩
    rw [Int.toNat_natCast]
    refine for_range (lo := 0) (n := k) (fun i σ H' => ∃ (lv : Addr) (ys : List V) (v6 v7 v8 : Option V), σ = [some (.ref x), some (.int (k : Int)), some (.ref r0), some (.int (q : Int)), some (.ref tb), some (.ref lv), v6, v7, v8] ∧ Same H H' ∧ H' r0 = some (.lst xs) ∧ StsAt H' xs M ∧ lv ≠ tb ∧ H' lv = some (.lst ((lwL q M st i).map V.int)) ∧ H' tb = some (.lst ys) ∧ RowsLi H' ys (tabM q M st i) ∧ ∀ c, V.ref c ∈ ys → H c = none ∧ c ≠ tb)
      ⟨lv, [], none, none, none, rfl, s04, hr4, hS4, ntb, elv, etb4, ⟨rfl, fun i v r e => (by cases e)⟩, fun c hc => (by cases hc)⟩ ?_ ?_
    · rintro i σ H5 hi ⟨lv, ys, v6, v7, v8, rfl, s05, hr5, hS5, nlv, hlv5, htb5, hR5, hne⟩
      have hqi : q ^ i ≤ 20000 := Nat.le_trans (Nat.pow_le_pow_right hq (by omega)) hsz
      have hqi1 : q ^ (i + 1) ≤ 20000 := Nat.le_trans (Nat.pow_le_pow_right hq (by omega)) hsz
      have hll : ((lwL q M st i).map V.int).length = q ^ i := by rw [List.length_map, lwL_len]
      have nr0 : r0 ≠ tb := fun e => by
        rw [e, etb4] at hr4
        have h0 : [] = xs := HO.lst.inj (Option.some.inj hr4)
        have a := hS4.1
        rw [← h0] at a
        have a2 : (0 : Nat) = M.length := a
        have b0 := hO.st0
        have b1 := hO.st1
        omega
      refine ⟨_, rfl, .inl ⟨rfl, _, SqL.of htb5⟩, _, rfl, lv, rfl, ⟨_, SqL.of hlv5⟩, fun D hD => ?_⟩
      refine lc_seq (fs := (rwL q M st i).map V.int) (sj_L (K := K) fun H6 s6 => SqL.of (s6 _ _ hlv5)) hD (by rw [hll, List.length_map, rwL_len]) (by rw [hll]; omega) ?_ ?_ gm_name
      · intro j v z H6 Qk hv hz s6 k2
        obtain ⟨a, ha, rfl⟩ := int_of' hv
        obtain ⟨b, hb, rfl⟩ := int_of' hz
        obtain ⟨hj, rfl⟩ := lwL_at ha
        obtain ⟨_, rfl⟩ := rwL_at hb
        obtain ⟨l0, l1⟩ := lvM_in hq hO.ok hO.st0 hO.st1 i j hj
        obtain ⟨bs, gs, ea, e1, e2, em⟩ := st_get (hS5.same s6) l0 l1
        refine ⟨rfl, _, rfl, _, rfl, r0, xs, _, _, rfl, rfl, SqL.of (s6 _ _ hr5), ea, bs, _, 0, _, rfl, rfl, SqT.of e1, rfl, ?_⟩
        exact k2 _ (fun _ _ e => e)
      · intro H6 s6 hD6
        have htb6 := s6 _ _ htb5
        have nD : D ≠ tb := (ne_of_none htb5 hD).symm
        refine ⟨tb, _, _, rfl, rfl, htb6, small1000 (by rw [hR5.1, tabM_len]; omega), ?_⟩
        have s06 := Same.trans s05 s6
        have s07 : Same H (upd H6 tb (.lst (ys ++ [.ref D]))) := same_put s06 htb0
        have hR7 : RowsLi (upd H6 tb (.lst (ys ++ [.ref D]))) (ys ++ [.ref D]) (tabM q M st (i + 1)) := by
          rw [tabM_succ]
          exact rowsLi_snocG hR5 (fun c hc => (hne c hc).2) s6 nD hD6
        have hr7 : upd H6 tb (.lst (ys ++ [.ref D])) r0 = some (.lst xs) := by rw [upd_ne nr0]; exact s6 _ _ hr5
        have hS7 : StsAt (upd H6 tb (.lst (ys ++ [.ref D]))) xs M := (hS5.same s6).lst htb6
        have hlv7 : upd H6 tb (.lst (ys ++ [.ref D])) lv = some (.lst ((lwL q M st i).map V.int)) := by rw [upd_ne nlv]; exact s6 _ _ hlv5
        have htb7 : upd H6 tb (.lst (ys ++ [.ref D])) tb = some (.lst (ys ++ [.ref D])) := upd_same
        generalize upd H6 tb (.lst (ys ++ [.ref D])) = H7 at s07 hR7 hr7 hS7 hlv7 htb7 ⊢
        refine ⟨_, rfl, _, rfl, by omega, by omega, ?_⟩
        rw [Int.toNat_natCast]
        intro D2 hD2
        refine lc2_rs (xs := (lwL q M st i).map V.int) (fs := (lwL q M st (i + 1)).map V.int) (n := q) (i1 := 8) hD2 (by rw [List.length_map, lwL_len, hll, Nat.pow_succ, Nat.mul_comm]) (by rw [List.length_map, lwL_len]; omega) ?_ ?_ ?_ ?_ gm_name
        · exact fun x => rfl
        · intro a H8 R ha s8 k3
          exact ⟨_, rfl, lv, rfl, ⟨_, SqL.of (s8 _ _ hlv7)⟩, k3 _ _ (fun _ _ e => e) (sj_L (K := K) fun H9 s9 => SqL.of (s9 _ _ hlv7))⟩
        · intro a j v z H8 Qk ha hv hz s8 k3
          obtain ⟨b, hb, rfl⟩ := int_of' hv
          obtain ⟨d, hd, rfl⟩ := int_of' hz
          rw [hll] at hd
          obtain ⟨hj, rfl⟩ := lwL_at hb
          have ed := lwL_step hj hd
          subst ed
          obtain ⟨l0, l1⟩ := lvM_in hq hO.ok hO.st0 hO.st1 i j hj
          obtain ⟨bs, gs, ea, e1, e2, em⟩ := st_get (hS7.same s8) l0 l1
          have hm := hO.ok.many _ em
          have eg := at_ints (l := (M.getD (lvM q M st i j).toNat (0, [])).2) (d := (a : Int)) (by omega) (by omega)
          rw [show (0 : Int) + (a : Int) = (a : Int) by omega]
          refine ⟨rfl, _, rfl, _, rfl, r0, xs, _, _, rfl, rfl, SqL.of (s8 _ _ hr7), ea, bs, _, 1, _, rfl, rfl, SqT.of e1, rfl, _, rfl, gs, _, _, _, rfl, rfl, SqT.of e2, eg, ?_⟩
          exact k3 _ (fun _ _ e => e)
        · intro H8 s8 hD8
          have nD2 : D2 ≠ tb := (ne_of_none htb7 hD2).symm
          exact ⟨D2, ys ++ [.ref D], _, v7, v8, rfl, Same.trans s07 s8, s8 _ _ hr7, hS7.same s8, nD2, hD8, s8 _ _ htb7, rowsLi_keep' hR7 (fun c _ o e => s8 _ _ e), fun c hc => by
            rcases List.mem_append.mp hc with h | h
            · exact hne c h
            · have e := List.mem_singleton.mp h
              injection e with e
              rw [e]
              exact ⟨Same.free s05 hD, nD⟩⟩
    · rintro σ H5 ⟨lv, ys, v6, v7, v8, rfl, s05, hr5, hS5, nlv, hlv5, htb5, hR5, hne⟩
      exact ⟨_, rfl, kk H5 tb ys s05 htb0 htb5 hR5 hne⟩
end

/-! a relabelling between two single turners, as it is made -/
theorem valD_app (p : Int) : ∀ a b : List Int, valD p (a ++ b) = valD p a + valD p b * p ^ a.length
  | [], b => by
    show valD p b = 0 + valD p b * p ^ 0
    rw [Int.pow_zero, Int.mul_one, Int.zero_add]
  | x :: a, b => by
    show valD p (a ++ b) * p + x = (valD p a * p + x) + valD p b * p ^ (a.length + 1)
    rw [valD_app p a b, Int.pow_succ, Int.add_mul, Int.mul_assoc]
    omega
theorem valD_nat {q : Nat} (hq : 0 < q) {ds : List Int} (hF : Figs (q : Int) ds) : ∃ v : Nat, valD (q : Int) ds = (v : Int) ∧ v < q ^ ds.length := by
  have h := nam_num (T := List.replicate ds.length []) hq hF (by rw [List.length_replicate])
  exact ⟨(valD (q : Int) ds).toNat, (Int.toNat_of_nonneg h.1).symm, h.2.1⟩
theorem dig_num {q : Nat} (hq : 0 < q) {ds : List Int} {v k : Nat} (hF : Figs (q : Int) ds) (hv : valD (q : Int) ds = (v : Int)) (hk : k < ds.length) : ((v % q ^ k : Nat) : Int) = valD (q : Int) (ds.take k) ∧ ((v / q ^ k : Nat) : Int) % (q : Int) = ds[k] := by
  obtain ⟨v1, x, e1, e2, h1, h2, e3⟩ := val_step hF hk
  obtain ⟨w, e4, _⟩ := valD_nat hq (ds := ds.drop (k + 1)) fun d hd => hF d (List.mem_of_mem_drop hd)
  have e5 : valD (q : Int) ds = ((v1 + x * q ^ k + w * q ^ (k + 1) : Nat) : Int) := by
    conv => lhs; rw [← List.take_append_drop (k + 1) ds]
    rw [valD_app, e3, e4, List.length_take, Nat.min_eq_left (by omega)]
    simp only [Int.natCast_add, Int.natCast_mul, Int.natCast_pow]
  rw [hv] at e5
  have e6 : v = v1 + (x + w * q) * q ^ k := by
    have := Int.ofNat.inj e5
    rw [this, Nat.pow_succ, Nat.add_mul, Nat.mul_assoc w q, Nat.mul_comm q (q ^ k), Nat.add_assoc]
  have hp : 0 < q ^ k := Nat.pow_pos hq
  constructor
  · rw [e1, e6, Nat.add_mul_mod_self_right, Nat.mod_eq_of_lt h1]
  · rw [e2, e6, Nat.add_mul_div_right _ _ hp, Nat.div_eq_of_lt h1, Nat.zero_add, ← Int.natCast_emod, Nat.add_mul_mod_self_right, Nat.mod_eq_of_lt h2]
theorem itB_take {p : Int} {M : Mach} {st : Int} (hP : IsP p) : ∀ (n k t : Nat), k ≤ n → (itB p M st n t).take k = itB p M st k t
  | 0, k, t, h => by
    have e : k = 0 := by omega
    subst e
    have := itB_len (p := p) (M := M) (st := st) 0 t
    rw [List.length_eq_zero_iff.mp this]; rfl
  | n + 1, k, t, h => by
    by_cases c : k = n + 1
    · rw [c]
      exact List.take_of_length_le (by rw [itB_len]; exact Nat.le_refl _)
    · rw [itB_up hP n t, List.take_append_of_le_length (by rw [itB_len]; omega)]
      exact itB_take hP n k t (by omega)
theorem itB_at {p : Int} {M : Mach} {st : Int} (hP : IsP p) {n k t : Nat} (hk : k < n) : (itB p M st n t)[k]? = some (sumT p M st k t % p) := by
  have e : (itB p M st n t).take (k + 1) = itB p M st k t ++ [sumT p M st k t % p] := by rw [itB_take hP n (k + 1) t hk, itB_up hP]
  have e2 : ((itB p M st n t).take (k + 1))[k]? = some (sumT p M st k t % p) := by
    rw [e, List.getElem?_append_right (by rw [itB_len]; exact Nat.le_refl _), itB_len, Nat.sub_self]; rfl
  rw [List.getElem?_take_of_lt (Nat.lt_succ_self k)] at e2
  exact e2
/-- the number of the setting t steps behind the zeros -/
def hN (q : Nat) (M : Mach) (st : Int) (n t : Nat) : Nat := itF (imM q (tabM q M st n) n) t 0
theorem hN_val {q n t : Nat} {M : Mach} {st : Int} (hP : IsP (q : Int)) : valD (q : Int) (itB q M st n t) = ((hN q M st n t : Nat) : Int) := itB_num hP t
theorem hN_dig {q n k t : Nat} {M : Mach} {st : Int} (hP : IsP (q : Int)) (hk : k < n) : hN q M st n t % q ^ k = hN q M st k t ∧ ((hN q M st n t / q ^ k : Nat) : Int) % (q : Int) = sumT q M st k t % (q : Int) := by
  have hq : 0 < q := by have := hP.two; omega
  have hl := itB_len (p := (q : Int)) (M := M) (st := st) n t
  have d := dig_num hq (itB_figs hP n t) (hN_val hP) (by rw [hl]; exact hk)
  constructor
  · have e := d.1
    rw [itB_take hP n k t (by omega), hN_val hP] at e
    exact Int.ofNat.inj e
  · rw [d.2]
    have e := itB_at (M := M) (st := st) (t := t) hP hk
    rw [List.getElem?_eq_getElem (by rw [hl]; exact hk)] at e
    exact Option.some.inj e
/-- one table, as it is filled step by step -/
def tbW (q : Nat) (F G : Nat → Nat) (s : Nat) : Nat → Nat → Nat → List Int → List Int
  | 0, _, _, t => t
  | m + 1, a, b, t => tbW q F G s m (F a) (G b) (t.set (a % s) ((((b / s : Nat) : Int) - ((a / s : Nat) : Int)) % (q : Int)))
theorem tbW_len (q : Nat) (F G : Nat → Nat) (s : Nat) : ∀ (m a b : Nat) (t : List Int), (tbW q F G s m a b t).length = t.length
  | 0, _, _, _ => rfl
  | m + 1, a, b, t => by
    show (tbW q F G s m (F a) (G b) _).length = _
    rw [tbW_len q F G s m, List.length_set]
theorem tbW_fig {q : Nat} (hq : 0 < q) (F G : Nat → Nat) (s : Nat) : ∀ (m a b : Nat) (t : List Int), Figs (q : Int) t → Figs (q : Int) (tbW q F G s m a b t)
  | 0, _, _, _, h => h
  | m + 1, a, b, t, h => tbW_fig hq F G s m _ _ _ fun d hd => by
    rcases List.mem_or_eq_of_mem_set hd with z | z
    · exact h d z
    · rw [z]; exact ⟨Int.emod_nonneg _ (by omega), Int.emod_lt_of_pos _ (by omega)⟩
theorem itF_in (F : Nat → Nat) (i a : Nat) : itF F i (F a) = itF F (i + 1) a := (itF_add F a i 1).symm
theorem tbW_keep (q : Nat) (F G : Nat → Nat) (s x : Nat) : ∀ (m a b : Nat) (t : List Int), (∀ i, i < m → itF F i a % s ≠ x) → (tbW q F G s m a b t).getD x 0 = t.getD x 0
  | 0, _, _, _, _ => rfl
  | m + 1, a, b, t, h => by
    show (tbW q F G s m (F a) (G b) _).getD x 0 = _
    rw [tbW_keep q F G s x m (F a) (G b) _ fun i hi => by rw [itF_in]; exact h (i + 1) (by omega)]
    have h0 : a % s ≠ x := h 0 (by omega)
    rw [List.getD_eq_getElem?_getD, List.getD_eq_getElem?_getD, List.getElem?_set_ne h0]
theorem tbW_get (q : Nat) (F G : Nat → Nat) {s : Nat} (hs : 0 < s) : ∀ (m a b : Nat) (t : List Int), s ≤ t.length → (∀ i j, i < m → j < m → itF F i a % s = itF F j a % s → i = j) → ∀ i, i < m →
    (tbW q F G s m a b t).getD (itF F i a % s) 0 = (((itF G i b / s : Nat) : Int) - ((itF F i a / s : Nat) : Int)) % (q : Int)
  | 0, _, _, _, _, _, i, hi => absurd hi (Nat.not_lt_zero i)
  | m + 1, a, b, t, hl, hj, 0, _ => by
    show (tbW q F G s m (F a) (G b) _).getD (a % s) 0 = (((b / s : Nat) : Int) - ((a / s : Nat) : Int)) % (q : Int)
    rw [tbW_keep q F G s (a % s) m (F a) (G b) _ fun i hi e => by
      rw [itF_in] at e
      have := hj (i + 1) 0 (by omega) (by omega) e
      omega]
    have hx : a % s < t.length := Nat.lt_of_lt_of_le (Nat.mod_lt _ hs) hl
    rw [List.getD_eq_getElem?_getD, List.getElem?_set_self hx]; rfl
  | m + 1, a, b, t, hl, hj, i + 1, hi => by
    show (tbW q F G s m (F a) (G b) _).getD (itF F (i + 1) a % s) 0 = _
    have := tbW_get q F G hs m (F a) (G b) (t.set (a % s) ((((b / s : Nat) : Int) - ((a / s : Nat) : Int)) % (q : Int))) (by rw [List.length_set]; exact hl) (fun x y hx hy e => by
      rw [itF_in, itF_in] at e
      have := hj (x + 1) (y + 1) (by omega) (by omega) e
      omega) i (by omega)
    rw [itF_in, itF_in] at this
    exact this
def relT (q : Nat) (M : Mach) (st : Int) (N : Mach) (su : Int) (n f : Nat) : List (List Int) := (List.range n).map fun k => tbW q (imM q (tabM q M st n) n) (imM q (tabM q N su n) n) (q ^ k) (q ^ k) 0 f (List.replicate (q ^ k) 0)
theorem relT_len (q : Nat) (M : Mach) (st : Int) (N : Mach) (su : Int) (n f : Nat) : (relT q M st N su n f).length = n := by unfold relT; rw [List.length_map, List.length_range]
theorem relT_row {q n f k : Nat} {M N : Mach} {st su : Int} (hk : k < n) : (relT q M st N su n f)[k]? = some (tbW q (imM q (tabM q M st n) n) (imM q (tabM q N su n) n) (q ^ k) (q ^ k) 0 f (List.replicate (q ^ k) 0)) := by
  unfold relT
  rw [List.getElem?_map, List.getElem?_range hk]; rfl
/-- two single turners of one prime with the same totals -/
structure TwoS (q : Nat) (M : Mach) (st : Int) (N : Mach) (su : Int) (n : Nat) : Prop where
  one : OkT (q : Int) M st
  two : OkT (q : Int) N su
  n0 : ∀ k, k < n → totN q M st k ≠ 0
  n1 : ∀ k, k < n → totN q N su k ≠ 0
  eq : ∀ k, k < n → totN q M st k = totN q N su k
theorem rnd_of {q : Nat} {M : Mach} {st : Int} {n : Nat} (hO : OkT (q : Int) M st) (h : ∀ k, k < n → totN q M st k ≠ 0) : Rnd q M st n (q ^ n) := by
  obtain ⟨hP, hM, z0, z1, _⟩ := hO
  have r := Rnd.of hP hM z0 z1 n h
  rw [Int.toNat_natCast] at r
  exact r
theorem orb_of {q : Nat} {M : Mach} {st : Int} {n : Nat} (hO : OkT (q : Int) M st) (h : ∀ k, k < n → totN q M st k ≠ 0) : Orb (imM q (tabM q M st n) n) 0 (q ^ n) := by
  have hP := hO.pr
  have r := (rnd_of hO h).per
  exact ⟨r.pos, (itB_zero hP).mp r.back, fun i h1 h2 e => r.fst i h1 h2 ((itB_zero hP).mpr e)⟩
theorem im_injN {q : Nat} (hq : 0 < q) (T : List (List Int)) (n : Nat) : InjN (imM q T n) (q ^ n) := ⟨fun j h => imM_lt hq T n j h, fun a b ha hb e => imM_inj hq T n a b ha hb e⟩
theorem orb_inj {f : Nat → Nat} {N : Nat} (hf : InjN f N) (h0 : 0 < N) (o : Orb f 0 N) : ∀ i j, i < N → j < N → itF f i 0 = itF f j 0 → i = j := by
  have nd := orbL_nodup hf h0 o
  unfold orbL at nd
  have hp := List.pairwise_map.mp nd
  rw [List.pairwise_iff_getElem] at hp
  have key : ∀ i j, i < j → j < N → itF f i 0 ≠ itF f j 0 := fun i j hij hj e => by
    have := hp i j (by rw [List.length_range]; omega) (by rw [List.length_range]; omega) hij
    rw [List.getElem_range, List.getElem_range] at this
    exact this e
  intro i j hi hj e
  rcases Nat.lt_trichotomy i j with c | c | c
  · exact absurd e (key i j c hj)
  · exact c
  · exact absurd e.symm (key j i c hi)
/-- the steps go round: what a round adds -/
theorem hN_mul {q n : Nat} {M : Mach} {st : Int} (hO : OkT (q : Int) M st) (h : ∀ k, k < n → totN q M st k ≠ 0) (j i : Nat) : hN q M st n (j * q ^ n + i) = hN q M st n i := by
  have e := (rnd_of hO h).per.mul i j
  have h1 := hN_val (n := n) (t := j * q ^ n + i) (M := M) (st := st) hO.pr
  have h2 := hN_val (n := n) (t := i) (M := M) (st := st) hO.pr
  rw [e, h2] at h1
  exact (Int.ofNat.inj h1).symm
theorem sum_mul {q k : Nat} {M : Mach} {st : Int} (hO : OkT (q : Int) M st) (h : ∀ i, i < k → totN q M st i ≠ 0) (j i : Nat) : sumT q M st k (j * q ^ k + i) % (q : Int) = ((j : Int) * totN q M st k + sumT q M st k i) % (q : Int) := by
  have r := rnd_of hO h
  rw [r.per.sum i j, ← r.tot hO.pr]
  rw [Int.add_emod, Int.mul_emod, Int.add_emod ((j : Int) * (sumT q M st k (q ^ k) % (q : Int))), Int.mul_emod (j : Int) (sumT q M st k (q ^ k) % (q : Int)), Int.emod_emod]
theorem relT_at {q n f s0 : Nat} {M N : Mach} {st su : Int} (h : TwoS q M st N su n) (hf : hN q N su n s0 = f) {k : Nat} (hk : k < n) (t : Nat) :
    ttM (relT q M st N su n f) k (hN q M st k t) = (sumT q N su k (t + s0) - sumT q M st k t) % (q : Int) := by
  have hP := h.one.pr
  have hq : 0 < q := by have := hP.two; omega
  have hs : 0 < q ^ k := Nat.pow_pos hq
  have hk0 : ∀ i, i < k → totN q M st i ≠ 0 := fun i hi => h.n0 i (by omega)
  have hk1 : ∀ i, i < k → totN q N su i ≠ 0 := fun i hi => h.n1 i (by omega)
  have row : ∀ x, ttM (relT q M st N su n f) k x = (tbW q (imM q (tabM q M st n) n) (imM q (tabM q N su n) n) (q ^ k) (q ^ k) 0 f (List.replicate (q ^ k) 0)).getD x 0 := fun x => by
    have e : (relT q M st N su n f).getD k [] = tbW q (imM q (tabM q M st n) n) (imM q (tabM q N su n) n) (q ^ k) (q ^ k) 0 f (List.replicate (q ^ k) 0) := by
      rw [List.getD_eq_getElem?_getD, relT_row hk]; rfl
    show ((relT q M st N su n f).getD k []).getD x 0 = _
    rw [e]
  have small : ∀ t, t < q ^ k → ttM (relT q M st N su n f) k (hN q M st k t) = (sumT q N su k (t + s0) - sumT q M st k t) % (q : Int) := fun t ht => by
    have d1 := hN_dig (M := M) (st := st) (t := t) hP hk
    have d2 := hN_dig (M := N) (st := su) (t := t + s0) hP hk
    rw [row, ← d1.1]
    have g := tbW_get q (imM q (tabM q M st n) n) (imM q (tabM q N su n) n) hs (q ^ k) 0 f (List.replicate (q ^ k) 0) (by rw [List.length_replicate]; exact Nat.le_refl _) (fun i j hi hj e => by
      have a1 := (hN_dig (M := M) (st := st) (t := i) hP hk).1
      have a2 := (hN_dig (M := M) (st := st) (t := j) hP hk).1
      unfold hN at a1 a2
      rw [a1, a2] at e
      exact orb_inj (im_injN hq _ _) hs (orb_of h.one hk0) i j hi hj e) t ht
    unfold hN
    rw [g, ← hf]
    have e3 : itF (imM q (tabM q N su n) n) t (hN q N su n s0) = hN q N su n (t + s0) := by
      unfold hN
      rw [itF_add]
    rw [e3, Int.sub_emod, d2.2, ← Int.sub_emod]
    have e4 : ((itF (imM q (tabM q M st n) n) t 0 / q ^ k : Nat) : Int) % (q : Int) = sumT q M st k t % (q : Int) := d1.2
    rw [Int.sub_emod, e4, ← Int.sub_emod]
  have e := Nat.div_add_mod t (q ^ k)
  rw [Nat.mul_comm] at e
  generalize hj : t / q ^ k = j at e
  generalize hi : t % q ^ k = i at e
  have hi2 : i < q ^ k := by rw [← hi]; exact Nat.mod_lt _ hs
  subst e
  rw [hN_mul h.one hk0, small i hi2, Nat.add_assoc]
  have s1 := sum_mul h.one hk0 j i
  have s2 := sum_mul h.two hk1 j (i + s0)
  rw [Int.sub_emod, ← Int.sub_emod, Int.sub_emod (sumT q N su k (j * q ^ k + (i + s0))), s1, s2, ← Int.sub_emod, h.eq k hk]
  congr 1
  omega
theorem nam_it {q n f s0 : Nat} {M N : Mach} {st su : Int} (h : TwoS q M st N su n) (hf : hN q N su n s0 = f) (t : Nat) : namM q (relT q M st N su n f) (itB q M st n t) = itB q N su n (t + s0) := by
  have hP := h.one.pr
  have l1 := itB_len (p := (q : Int)) (M := M) (st := st) n t
  have l2 := itB_len (p := (q : Int)) (M := N) (st := su) n (t + s0)
  have hl : (itB q M st n t).length = (relT q M st N su n f).length := by rw [l1, relT_len]
  refine List.ext_getElem (by rw [nam_len hl, l1, l2]) fun k h1 h2 => ?_
  have hk : k < n := by omega
  rw [nam_at hl (by omega), itB_take hP n k t (by omega), hN_val hP, Int.toNat_natCast, relT_at h hf hk]
  have e1 := itB_at (M := M) (st := st) (t := t) hP hk
  have e2 := itB_at (M := N) (st := su) (t := t + s0) hP hk
  rw [List.getElem?_eq_getElem (by omega)] at e1
  rw [List.getElem?_eq_getElem (by omega)] at e2
  rw [Option.some.inj e1, Option.some.inj e2, ← Int.add_emod]
  congr 1
  omega
theorem it_ex {q n : Nat} {M : Mach} {st : Int} (hO : OkT (q : Int) M st) (h : ∀ k, k < n → totN q M st k ≠ 0) {ds : List Int} (hF : Figs (q : Int) ds) (hl : ds.length = n) : ∃ t, itB q M st n t = ds := by
  have hP := hO.pr
  have hq : 0 < q := by have := hP.two; omega
  obtain ⟨v, e, hv⟩ := valD_nat hq hF
  rw [hl] at hv
  obtain ⟨t, _, e2, _⟩ := orb_place (im_injN hq (tabM q M st n) n) (Nat.pow_pos hq) (orb_of hO h) hv
  exact ⟨t, valD_inj hq (itB_figs hP n t) hF (by rw [itB_len, hl]) (by rw [hN_val hP, e]; unfold hN; rw [e2])⟩
theorem num_ex {q n f : Nat} {M : Mach} {st : Int} (hO : OkT (q : Int) M st) (h : ∀ k, k < n → totN q M st k ≠ 0) (hf : f < q ^ n) : ∃ s0, hN q M st n s0 = f := by
  have hq : 0 < q := by have := hO.pr.two; omega
  obtain ⟨t, _, e2, _⟩ := orb_place (im_injN hq (tabM q M st n) n) (Nat.pow_pos hq) (orb_of hO h) hf
  exact ⟨t, e2⟩
/-- what is made leads the one to the other -/
theorem rel_ways {q n f : Nat} {M N : Mach} {st su : Int} (h : TwoS q M st N su n) (hf : f < q ^ n) {ds : List Int} (hF : Figs (q : Int) ds) (hl : ds.length = n) : namM q (relT q M st N su n f) (behM q M st ds) = behM q N su (namM q (relT q M st N su n f) ds) := by
  obtain ⟨s0, hs⟩ := num_ex h.two h.n1 hf
  obtain ⟨t, rfl⟩ := it_ex h.one h.n0 hF hl
  have e : behM q M st (itB q M st n t) = itB q M st n (t + 1) := rfl
  rw [e, nam_it h hs, nam_it h hs, show t + 1 + s0 = (t + s0) + 1 by omega]; rfl
theorem rel_first {q n f : Nat} {M N : Mach} {st su : Int} (h : TwoS q M st N su n) {cs : List Int} (hF : Figs (q : Int) cs) (hl : cs.length ≤ n) (hf : valD (q : Int) cs = (f : Int)) {k : Nat} (hk : k < n) : ttM (relT q M st N su n f) k 0 = cs.getD k 0 := by
  have hP := h.one.pr
  have hq : 0 < q := by have := hP.two; omega
  obtain ⟨v, e, hv⟩ := valD_nat hq hF
  rw [hf] at e
  obtain rfl := Int.ofNat.inj e
  have hfn : f < q ^ n := Nat.lt_of_lt_of_le hv (Nat.pow_le_pow_right hq hl)
  obtain ⟨s0, hs⟩ := num_ex h.two h.n1 hfn
  have r := relT_at h hs hk 0
  have z : hN q M st k 0 = 0 := rfl
  have z2 : sumT q M st k 0 = 0 := rfl
  rw [z, z2, Nat.zero_add, Int.sub_zero] at r
  have d := (hN_dig (M := N) (st := su) (t := s0) hP hk).2
  rw [hs] at d
  rw [r, ← d]
  by_cases c : k < cs.length
  · rw [(dig_num hq hF hf c).2, List.getD_eq_getElem?_getD, List.getElem?_eq_getElem c]; rfl
  · have hb : f < q ^ k := Nat.lt_of_lt_of_le hv (Nat.pow_le_pow_right hq (by omega))
    rw [Nat.div_eq_of_lt hb, List.getD_eq_getElem?_getD, List.getElem?_eq_none (by omega)]
    exact Int.zero_emod _
theorem relT_ok {q n f : Nat} {M N : Mach} {st su : Int} (h : TwoS q M st N su n) (hn : n ≤ 8) (h5 : ∀ k, k < n → q ^ k ≤ 500) (hw : q ^ n ≤ 20000) : OkR (q : Int) (relT q M st N su n f) := by
  have hP := h.one.pr
  have hq : 0 < q := by have := hP.two; omega
  have rows : ∀ r ∈ relT q M st N su n f, ∃ k, k < n ∧ r = tbW q (imM q (tabM q M st n) n) (imM q (tabM q N su n) n) (q ^ k) (q ^ k) 0 f (List.replicate (q ^ k) 0) := fun r hr => by
    obtain ⟨k, hk, rfl⟩ := List.mem_map.mp hr
    exact ⟨k, List.mem_range.mp hk, rfl⟩
  refine ⟨hP, fun i r hr => ?_, fun r hr => ?_, by rw [relT_len]; exact hn, fun r hr => ?_, ?_⟩
  · have hi : i < n := by
      have := (List.getElem?_eq_some_iff.mp hr).1
      rw [relT_len] at this
      exact this
    rw [relT_row hi] at hr
    rw [← Option.some.inj hr, tbW_len, List.length_replicate, Int.natCast_pow]
  · obtain ⟨k, hk, rfl⟩ := rows r hr
    exact tbW_fig hq _ _ _ _ _ _ _ fun d hd => by
      rw [List.eq_of_mem_replicate hd]; exact ⟨Int.le_refl 0, by omega⟩
  · obtain ⟨k, hk, rfl⟩ := rows r hr
    rw [tbW_len, List.length_replicate]
    exact h5 k hk
  · rw [relT_len, ← Int.natCast_pow]
    exact Int.ofNat_le.mpr hw

abbrev sLd : Stmt := inClass (top 47) 8
theorem eq_li2r {K : PySem.W.Frag} {H : Hp} {a b : Addr} {ds es : List Int} {Q : V → Hp → Prop} (ha : H a = some (.lst (ds.map V.int))) (hb : H b = some (.lst (es.map V.int))) (q : Q (.bl (decide (ds = es))) H) : rEqD K (.ref a) (.ref b) H Q := by
  refine ⟨_, _, .lst (SqL.of ha) (dp_ints ds), .lst (SqL.of hb) (dp_ints es), shaped_l ds, shaped_l es, ?_⟩
  rw [show PyData.eqv (.list (ds.map PyData.int)) (.list (es.map PyData.int)) = decide (ds = es) by rw [PyData.eqv]; exact eqv_ints2 ds es]
  exact q
/-- whether it leads, or PrimesDiffer -/
def spLd (K : PySem.W.Frag) (C CT CPD : Addr) : Sp := fun vs H Q E => ∃ (x y z : Addr) (q : Nat) (p1 p2 : Int) (T : List (List Int)) (M N : Mach) (st sd : Int), vs = [.ref x, .ref y, .ref z] ∧ RelAt C H x (q : Int) T ∧ OkR (q : Int) T ∧ TurAt CT H y p1 M st ∧ OkT p1 M st ∧ TurAt CT H z p2 N sd ∧ OkT p2 N sd ∧
  ((p1 = (q : Int) ∧ p2 = (q : Int) ∧ ∀ H', Same H H' → Q (.bl (ldB q T.length T (tabM q M st T.length) (tabM q N sd T.length))) H') ∨ ((p1 ≠ (q : Int) ∨ p2 ≠ (q : Int)) ∧ ErrAt K CPD "PrimesDiffer" [] H E))
def spLdG (C CT : Addr) : Sp := fun vs H Q _ => ∃ (x y z : Addr) (q : Nat) (T : List (List Int)) (M N : Mach) (st sd : Int), vs = [.ref x, .ref y, .ref z] ∧ RelAt C H x (q : Int) T ∧ OkR (q : Int) T ∧ TurAt CT H y (q : Int) M st ∧ OkT (q : Int) M st ∧ TurAt CT H z (q : Int) N sd ∧ OkT (q : Int) N sd ∧
  ∀ H', Same H H' → Q (.bl (ldB q T.length T (tabM q M st T.length) (tabM q N sd T.length))) H'
theorem tabM_ok {q n : Nat} {M : Mach} {st : Int} (hO : OkT (q : Int) M st) (hn : n ≤ 200) (hf : (q : Int) ^ n ≤ 20000) : OkB (q : Int) (tabM q M st n) := by
  have hp2 := hO.pr.two
  refine ⟨hO.pr, fun i r e => ?_, fun r hr => ?_, by rw [tabM_len]; exact hf, by rw [tabM_len]; exact hn⟩
  · obtain ⟨_, rfl⟩ := tabM_row e
    rw [List.length_map, List.length_range, Int.natCast_pow]
  · obtain ⟨i, hi⟩ := List.getElem?_of_mem hr
    obtain ⟨_, rfl⟩ := tabM_row hi
    intro d hd
    obtain ⟨j, hj, rfl⟩ := List.mem_map.mp hd
    have l := lvM_in (q := q) (by omega) hO.ok hO.st0 hO.st1 i j (List.mem_range.mp hj)
    exact turnM_in hO.ok rfl l.1 l.2
theorem rowsL_li {H : Hp} {ys : List V} {T : List (List Int)} (h : RowsLi H ys T) : RowsL H ys T := ⟨h.1, fun i v r e1 e2 => by
  obtain ⟨a, e3, e4⟩ := h.2 i v r e1 e2
  exact ⟨a, e3, .inl e4⟩⟩
theorem no_bhL (p : Int) (t : Addr) : (rf p t).lookup ("_behind" : Str) = none := rf_no p t (by decide +kernel) (by decide +kernel)
section
variable {P : Program} {w : World} {K : PySem.W.Frag} {mg : Str → Option Value} {base : Heap} {C CT CPD : Addr}
theorem scLd : FnScope ["self", "one", "other", "dials", "behind", "ones", "others", "image"] ["self", "one", "other"] (defScope sLd) := ⟨rfl, rfl, rfl, by decide +kernel, rfl, by decide +kernel, by decide +kernel⟩
theorem nmLd : nmB ["self", "one", "other", "dials", "behind", "ones", "others", "image"] [("self", 0), ("one", 1), ("other", 2), ("dials", 3), ("behind", 4), ("ones", 5), ("others", 6)] ["PrimesDiffer", "len", "images", "tables_of"] (defScope sLd) = true := by decide +kernel
theorem ok_ld {f : Addr} {fd : FuncData} (F : Fun K "leads" "Relabelling.leads" sLd f fd) (B : Bn mg) (T' : Rc K C) (TT' : Tc K CT) (EB : Mf P w K mg base 2 C "_behind" ["self", "dials"] (spRBh C)) (DI : Df P w K mg base 1 "images" ["prime", "tables"] spIm) (DT : Df P w K mg base 3 "tables_of" ["turner", "dials"] (spTO CT)) (EP : Pf P w K mg base 1 CT "prime" ["self"] (getSp CT "_prime"))
    (KP : Ke P w K mg base 10 "PrimesDiffer" CPD "PrimesDiffer" ["self"] vs0) : FnOk P w K mg base (L2.CX P w) 13 f fd ["self", "one", "other"] (spLd K C CT CPD) := by
  refine F.okX scLd (fun vs H Q E h => ?_) (fun cdv A outer s H vs Q E hr h => ?_)
  · obtain ⟨x, y, z, q, p1, p2, T, M, N, st, sd, rfl, _⟩ := h
    rfl
  · obtain ⟨x, y, z, q, p1, p2, T, M, N, st, sd, rfl, hT, hO, hY, hOy, hZ, hOz, h⟩ := h
    have hcl := T'.cl
    have hclt := TT'.cl
    obtain ⟨b1, b2, b3, b4, b5, b6, b7, b8, b9, b10, b11⟩ := B
    refine' ex_mk ?d ?_
    case d =>
      have nm := (nm_of (CX := L2.CX P w) (P := P) (w := w) (K := K) (mg := mg) (base := base) (outer := outer) (H := H) (E := E) nmLd hr).xe
      have hu := nm.room.units
      refine' pss_cons (ps_if (PW.pt (pw_or (pt_cmpR op_ne (n_p nm hclt EP (by decide) ?c1) ?c2 (nomark _)) (pw_or1 (pt_cmpR op_ne (n_p nm hclt EP (by decide) ?c3) ?c4 (nomark _))))) (pss_one (ps_raise rfl (takes_of rfl rfl rfl rfl) (n_ke0 nm KP (by decide) ?gk))) pss_nil)
        (pss_cons ?s2 (pss_cons (ps_asg (n_m nm hcl EB (by decide) ?b1 (pa_cons ?b2 pa_nil)) ?b3) (pss_cons (ps_asg (pe_tup (pa_cons (n_d nm DI (by decide) ?i0 (pa_cons ?i1 (pa_cons (n_d nm DT (by decide) ?i2 (pa_cons ?i3 (pa_cons ?i4 pa_nil))) pa_nil))) (pa_cons (n_d nm DI (by decide) ?i5 (pa_cons ?i6 (pa_cons (n_d nm DT (by decide) ?i7 (pa_cons ?i8 (pa_cons ?i9 pa_nil))) pa_nil))) pa_nil))) ?gg)
          (pss_one (ps_ret (pe_cmpR (op_eqD hu) ?l1 ?l2 (nomark _)))))))
      case c1 => walk_at "pe"
      case c2 => walk_at "pe"
      case c3 => walk_at "pe"
      case c4 => walk_at "pe"
      case gk => walk_at "mem"
      case s2 => walk_at "ps"
      case b1 => walk_at "pe"
      case b2 => walk_at "pe"
      case b3 => walk_at "pg"
      case i0 => walk_at "mem"
      case i1 => walk_at "pe"
      case i2 => walk_at "mem"
      case i3 => walk_at "pe"
      case i4 => walk_at "pe"
      case i5 => walk_at "mem"
      case i6 => walk_at "pe"
      case i7 => walk_at "mem"
      case i8 => walk_at "pe"
      case i9 => walk_at "pe"
      case gg => walk_at "pg"
      case l1 =>
        refine' n_lc (own := [("image", 7)]) (g := gName 7) (NS' := [("behind", 4), ("image", 7)]) (WS' := [("image", 7)]) (G' := []) (N := ["self", "one", "other", "dials", "behind", "ones", "others", "image"]) (scD := defScope sLd) nm rfl rfl (by decide +kernel) (by decide +kernel) (n_piL nm ?li) (fun X' nm2 => ?lg) (fun X' nm2 => n_ixL nm2 ?e1 ?e2 (fun _ _ => rfl))
        case li => walk_at "pe"
        case lg => walk_at "pg"
        case e1 => walk_at "pe"
        case e2 => walk_at "pe"
      case l2 =>
        refine' n_lc (own := [("image", 7)]) (g := gName 7) (NS' := [("others", 6), ("image", 7)]) (WS' := [("image", 7)]) (G' := []) (N := ["self", "one", "other", "dials", "behind", "ones", "others", "image"]) (scD := defScope sLd) nm rfl rfl (by decide +kernel) (by decide +kernel) (n_piL nm ?li) (fun X' nm2 => ?lg) (fun X' nm2 => n_ixL nm2 ?e1 ?e2 (fun _ _ => rfl))
        case li => walk_at "pe"
        case lg => walk_at "pg"
        case e1 => walk_at "pe"
        case e2 => walk_at "pe"
    obtain ⟨dx, tx, xx, hx1, hx2, hx3⟩ := id hT
    obtain ⟨dy, ty, yy, hy1, hy2, hy3⟩ := id hY
    obtain ⟨dz, tz, zz, hz1, hz2, hz3⟩ := id hZ
    have hp2 := hO.pr.two
    have hle := hO.le
    have hq : 0 < q := by omega
    refine ⟨_, rfl, y, dy, _, rfl, hy1, y, dy, _, _, rfl, hy1, tf_p _ _ _, _, rfl, x, C, dx, _, _, rfl, hx1, T'.cl, T'.nP, rf_p _ _, rfl, _, rfl, ?_⟩
    have hEr : (p1 ≠ (q : Int) ∨ p2 ≠ (q : Int)) → ErrAt K CPD "PrimesDiffer" [] H E := fun hne => by
      rcases h with ⟨e1, e2, _⟩ | ⟨_, e⟩
      · rcases hne with a | a
        · exact absurd e1 a
        · exact absurd e2 a
      · exact e
    by_cases c1 : p1 = (q : Int)
    rotate_left
    · rw [show (!decide (V.int p1 = V.int (q : Int))) = true by rw [dec_int]; simp [c1]]
      refine iteT ?_
      exact iteT (ke_ok (by show 0 ≤ 1000; decide) ⟨rfl, rfl⟩ (hEr (.inl c1)))
    subst c1
    rw [show (!decide (V.int (q : Int) = V.int (q : Int))) = false by simp]
    refine iteF ?_
    refine ⟨_, rfl, z, dz, _, rfl, hz1, z, dz, _, _, rfl, hz1, tf_p _ _ _, _, rfl, x, C, dx, _, _, rfl, hx1, T'.cl, T'.nP, rf_p _ _, rfl, _, rfl, ?_⟩
    by_cases c2 : p2 = (q : Int)
    rotate_left
    · rw [show (!decide (V.int p2 = V.int (q : Int))) = true by rw [dec_int]; simp [c2]]
      exact iteT (ke_ok (by show 0 ≤ 1000; decide) ⟨rfl, rfl⟩ (hEr (.inr c2)))
    subst c2
    rw [show (!decide (V.int (q : Int) = V.int (q : Int))) = false by simp]
    refine iteF ?_
    have kk : ∀ H', Same H H' → Q (.bl (ldB q T.length T (tabM q M st T.length) (tabM q N sd T.length))) H' := by
      rcases h with ⟨_, _, e⟩ | ⟨e, _⟩
      · exact e
      · rcases e with e | e <;> exact absurd rfl e
    have hxl : xx.length = T.length := hx3.1
    have hfw := hO.few
    have hpw : q ^ T.length ≤ 20000 := by
      rw [← Int.natCast_pow] at hfw
      exact Int.ofNat_le.mp hfw
    have hsl : (20000 : Nat) < sizeLine := by rw [sizeLine_eq]; decide
    refine ⟨_, rfl, x, C, dx, _, _, rfl, hx1, T'.cl, T'.nT, rf_t _ _, tx, _, rfl, .inr (SqT.of hx2), ?_⟩
    rw [hxl]
    refine ⟨_, rfl, x, dx, _, rfl, hx1, no_bhL _ _, _, rfl, x, q, T.length, T, rfl, hT, hO.b, Nat.le_refl _, fun H1 t1 s1 ht1 hi1 => ?_⟩
    refine ⟨_, rfl, x, C, dx, _, _, rfl, s1 _ _ hx1, T'.cl, T'.nP, rf_p _ _, _, rfl, _, rfl, y, q, T.length, M, st, rfl, hY.same s1, hOy, hpw, by omega, fun H2 r2 ys2 s2 hr20 hr2 hR2 _ => ?_⟩
    refine ⟨q, r2, ys2, _, rfl, .inl hr2, rowsL_li hR2, tabM_ok hOy (by omega) hfw, fun H3 t3 s3 ht3 hi3 => ?_⟩
    rw [tabM_len] at hi3
    have s13 := Same.trans s1 (Same.trans s2 s3)
    refine ⟨_, rfl, x, C, dx, _, _, rfl, s13 _ _ hx1, T'.cl, T'.nP, rf_p _ _, _, rfl, _, rfl, z, q, T.length, N, sd, rfl, hZ.same s13, hOz, hpw, by omega, fun H4 r4 ys4 s4 hr40 hr4 hR4 _ => ?_⟩
    refine ⟨q, r4, ys4, _, rfl, .inl hr4, rowsL_li hR4, tabM_ok hOz (by omega) hfw, fun H5 t5 s5 ht5 hi5 => ?_⟩
    rw [tabM_len] at hi5
    refine ⟨by show 2 ≤ sizeLine; decide, fun q6 hq6 => ?_⟩
    refine ⟨q6, _, rfl, SqT.of upd_same, rfl, _, _, rfl, _, _, rfl, rfl, ?_⟩
    have s6 := same_new (o := .tup [.ref t3, .ref t5]) hq6
    generalize upd H5 q6 (.tup [.ref t3, .ref t5]) = H6 at s6 ⊢
    have s36 := Same.trans s4 (Same.trans s5 s6)
    have hi1' := s36 _ _ (s3 _ _ (s2 _ _ hi1))
    have hi3' := s36 _ _ hi3
    have hi5' := s6 _ _ hi5
    have s06 := Same.trans s13 s36
    refine ⟨_, rfl, t3, rfl, ⟨_, SqL.of hi3'⟩, fun Da hDa => ?_⟩
    refine lc_seq (fs := ((List.range (q ^ T.length)).map fun j => ((imM q T T.length (imM q (tabM q M st T.length) T.length j) : Nat) : Int)).map V.int) (sj_L (K := K) fun H9 s9 => SqL.of (s9 _ _ hi3')) hDa (by rw [List.length_map, List.length_map, List.length_range, List.length_map, imgL_len]) (by rw [List.length_map, imgL_len]; omega) ?_ ?_ gm_name
    · intro j v z9 H9 Qk hv hz9 s9 k2
      obtain ⟨a, ha, rfl⟩ := int_of' hv
      obtain ⟨b, hb, rfl⟩ := int_of' hz9
      obtain ⟨hj, rfl⟩ := imgL_of ha
      rw [List.getElem?_map, List.getElem?_range hj] at hb
      obtain rfl := (Option.some.inj hb).symm
      have lt := imM_lt hq (tabM q M st T.length) T.length j hj
      refine ⟨rfl, _, rfl, _, rfl, t1, _, _, _, rfl, rfl, SqL.of (s9 _ _ hi1'), at_of (j := imM q (tabM q M st T.length) T.length j) rfl (by rw [List.getElem?_map, imgL_at lt]; rfl), ?_⟩
      exact k2 _ (fun _ _ e => e)
    intro Ga sGa hDa9
    refine ⟨_, rfl, t1, rfl, ⟨_, SqL.of (sGa _ _ hi1')⟩, fun Db hDb => ?_⟩
    refine lc_seq (fs := ((List.range (q ^ T.length)).map fun j => ((imM q (tabM q N sd T.length) T.length (imM q T T.length j) : Nat) : Int)).map V.int) (sj_L (K := K) fun H9 s9 => SqL.of (s9 _ _ (sGa _ _ hi1'))) hDb (by rw [List.length_map, List.length_map, List.length_range, List.length_map, imgL_len]) (by rw [List.length_map, imgL_len]; omega) ?_ ?_ gm_name
    · intro j v z9 H9 Qk hv hz9 s9 k2
      obtain ⟨a, ha, rfl⟩ := int_of' hv
      obtain ⟨b, hb, rfl⟩ := int_of' hz9
      obtain ⟨hj, rfl⟩ := imgL_of ha
      rw [List.getElem?_map, List.getElem?_range hj] at hb
      obtain rfl := (Option.some.inj hb).symm
      have lt := imM_lt hq T T.length j hj
      refine ⟨rfl, _, rfl, _, rfl, t5, _, _, _, rfl, rfl, SqL.of (s9 _ _ (sGa _ _ hi5')), at_of (j := imM q T T.length j) rfl (by rw [List.getElem?_map, imgL_at lt]; rfl), ?_⟩
      exact k2 _ (fun _ _ e => e)
    intro Gb sGb hDb9
    refine eq_li2r (sGb _ _ hDa9) hDb9 ?_
    rw [all_list]
    exact kk _ (Same.trans s06 (Same.trans sGa sGb))
end

abbrev sChs2 : Stmt := top 48
abbrev sCTo : Stmt := top 49
abbrev sTbw : Stmt := top 50
/-- figures chosen that are figures -/
def spChG (K : PySem.W.Frag) : Sp := fun vs H Q _ => ∃ (p : Int) (c : Addr) (ds : List Int), vs = [.int p, .ref c] ∧ IsP p ∧ (SqT K H c (ds.map V.int) ∨ SqL K H c (ds.map V.int)) ∧ Figs p ds ∧ Q .non H
/-- totals that agree -/
def spCTG (C : Addr) : Sp := fun vs H Q _ => ∃ (x y : Addr) (q n : Nat) (M N : Mach) (st su : Int), vs = [.ref x, .ref y, .int (n : Int)] ∧ TurAt C H x (q : Int) M st ∧ TurAt C H y (q : Int) N su ∧ n ≤ 200 ∧ TwoS q M st N su n ∧ ∀ H', Same H H' → Q .non H'
/-- one table between two -/
def spTbw : Sp := fun vs H Q _ => ∃ (o u : Addr) (q N f s : Nat) (F G : Nat → Nat), vs = [.int (q : Int), .ref o, .ref u, .int (f : Int), .int (s : Int)] ∧ IsP (q : Int) ∧ H o = some (.lst (((List.range N).map fun j => ((F j : Nat) : Int)).map V.int)) ∧ H u = some (.lst (((List.range N).map fun j => ((G j : Nat) : Int)).map V.int)) ∧
  (∀ j, j < N → F j < N) ∧ (∀ j, j < N → G j < N) ∧ f < N ∧ 0 < s ∧ s ≤ 900 ∧ ∀ H' r, Same H H' → H r = none → H' r = some (.lst ((tbW q F G s s 0 f (List.replicate s 0)).map V.int)) → Q (.ref r) H'
theorem totL_none {p : Int} {M : Mach} {st : Int} {n : Nat} (h : ∀ k, k < n → totN p M st k ≠ 0) : ¬ (0 : Int) ∈ totL p M st n := fun z => by
  unfold totL at z
  obtain ⟨k, hk, e⟩ := List.mem_map.mp z
  exact h k (List.mem_range.mp hk) e
theorem totL_at {p : Int} {M : Mach} {st : Int} {n k : Nat} (h : k < n) : atI ((totL p M st n).map V.int) (k : Int) = some (.int (totN p M st k)) := atI_nat (by
  rw [List.getElem?_map]
  unfold totL
  rw [List.getElem?_map, List.getElem?_range h]; rfl)
theorem rngF_at {F : Nat → Nat} {N j : Nat} (h : j < N) : atI (((List.range N).map fun j => ((F j : Nat) : Int)).map V.int) (j : Int) = some (.int ((F j : Nat) : Int)) := atI_nat (by
  rw [List.getElem?_map, List.getElem?_map, List.getElem?_range h]; rfl)
section
variable {P : Program} {w : World} {K : PySem.W.Frag} {mg : Str → Option Value} {base : Heap} {C : Addr}
theorem scChs2 : FnScope ["prime", "chosen", "figure"] ["prime", "chosen"] (defScope sChs2) := ⟨rfl, rfl, rfl, by decide +kernel, rfl, by decide +kernel, by decide +kernel⟩
theorem nmChs2 : nmB ["prime", "chosen", "figure"] [("prime", 0), ("chosen", 1), ("figure", 2)] ["is_below"] (defScope sChs2) = true := by decide +kernel
theorem ok_chG {f : Addr} {fd : FuncData} (F : Fun K "_check_chosen" "_check_chosen" sChs2 f fd) (D : Df P w K mg base 2 "is_below" ["value", "bound"] (spBel K)) : FnOk P w K mg base CX0 3 f fd ["prime", "chosen"] (spChG K) := by
  refine F.ok scChs2 (fun vs H Q E h => ?_) (fun cdv A outer s H vs Q E hr h => ?_)
  · obtain ⟨p, c, ds, rfl, _⟩ := h
    rfl
  · obtain ⟨p, c, ds, rfl, hP, hc, hF, q⟩ := h
    refine' ex_mk ?d ?_
    case d =>
      have nm := nm_of (CX := CX0) (P := P) (w := w) (K := K) (mg := mg) (base := base) (outer := outer) (H := H) (E := E) nmChs2 hr
      refine' pss_one (n_for nm PassesOwn.never (pi_or (pi_list ?a1) (pi_tup ?a2)) ?fg (pss_one (ps_if (pt_not (pt_val (n_d nm D (by decide) ?g1 (pa_cons ?b1 (pa_cons ?b2 pa_nil))))) (pss_one ps_never) pss_nil)))
      case a1 => walk_at "pe"
      case a2 => walk_at "pe"
      case fg => walk_at "pg"
      case g1 => walk_at "mem"
      case b1 => walk_at "pe"
      case b2 => walk_at "pe"
    have step : ∀ (i : Nat) (x : V) (Qb : Bool → L2.Hp → Prop) (σ : L2.St), (ds.map V.int)[i]? = some x → ∃ d, x = V.int d ∧ belowV (.int d) p = true := fun i x Qb σ hx => by
      rw [List.getElem?_map] at hx
      obtain ⟨d, e1, e2⟩ := Option.map_eq_some_iff.mp hx
      have hd := hF d (List.mem_of_getElem? e1)
      refine ⟨d, e2.symm, ?_⟩
      show (decide ((0 : Int) ≤ d) && decide (d < p)) = true
      rw [decide_eq_true hd.1, decide_eq_true hd.2]; rfl
    rcases hc with hc | hc
    · refine .inr ⟨_, rfl, c, rfl, ⟨_, hc⟩, ?_⟩
      refine for_seq (xs := ds.map V.int) (sj_T (K := K) (S := fun H' => H' = H) fun H1 h => by rw [h]; exact hc) (fun i σ H' => H' = H ∧ ∃ v2, σ = [some (.int p), some (.ref c), v2]) ⟨rfl, none, rfl⟩ (fun i σ H' h => h.1) ?_ ?_
      · rintro i x σ H' hx ⟨rfl, v2, rfl⟩
        obtain ⟨d, rfl, hd⟩ := step i x (fun _ _ => True) [] hx
        refine ⟨_, rfl, _, rfl, _, _, _, rfl, kd_int d, _, rfl, ?_⟩
        rw [hd]
        exact iteF ⟨rfl, _, rfl⟩
      · rintro σ H' ⟨rfl, _⟩
        exact q
    · refine .inl ⟨_, rfl, c, rfl, ⟨_, hc⟩, ?_⟩
      refine for_seq (xs := ds.map V.int) (sj_L (K := K) (S := fun H' => H' = H) fun H1 h => by rw [h]; exact hc) (fun i σ H' => H' = H ∧ ∃ v2, σ = [some (.int p), some (.ref c), v2]) ⟨rfl, none, rfl⟩ (fun i σ H' h => h.1) ?_ ?_
      · rintro i x σ H' hx ⟨rfl, v2, rfl⟩
        obtain ⟨d, rfl, hd⟩ := step i x (fun _ _ => True) [] hx
        refine ⟨_, rfl, _, rfl, _, _, _, rfl, kd_int d, _, rfl, ?_⟩
        rw [hd]
        exact iteF ⟨rfl, _, rfl⟩
      · rintro σ H' ⟨rfl, _⟩
        exact q
theorem scCTo : FnScope ["one", "other", "dials", "totals", "others", "below"] ["one", "other", "dials"] (defScope sCTo) := ⟨rfl, rfl, rfl, by decide +kernel, rfl, by decide +kernel, by decide +kernel⟩
theorem nmCTo : nmB ["one", "other", "dials", "totals", "others", "below"] [("one", 0), ("other", 1), ("dials", 2), ("totals", 3), ("others", 4), ("below", 5)] ["totals_below", "range"] (defScope sCTo) = true := by decide +kernel
theorem ok_ctG {f : Addr} {fd : FuncData} (F : Fun K "_check_totals" "_check_totals" sCTo f fd) (B : Bn mg) (D : Df P w K mg base 6 "totals_below" ["turner", "dials"] (spTB C)) : FnOk P w K mg base CX0 7 f fd ["one", "other", "dials"] (spCTG C) := by
  refine F.ok scCTo (fun vs H Q E h => ?_) (fun cdv A outer s H vs Q E hr h => ?_)
  · obtain ⟨x, y, q, n, M, N, st, su, rfl, _⟩ := h
    rfl
  · obtain ⟨x, y, q, n, M, N, st, su, rfl, hT, hU, hn, hS, k⟩ := h
    obtain ⟨b1, b2, b3, b4, b5, b6, b7, b8, b9, b10, b11⟩ := B
    refine' ex_mk ?d ?_
    case d =>
      have nm := nm_of (CX := CX0) (P := P) (w := w) (K := K) (mg := mg) (base := base) (outer := outer) (H := H) (E := E) nmCTo hr
      have hun := nm.room.un
      refine' pss_cons (ps_par (i := 3) (j := 4) rfl nm.nd rfl rfl (by decide) rfl rfl (pa_cons ?e1 (pa_cons ?e2 pa_nil)) (by rfl)) (pss_cons (ps_if (PW.pt (pw_or (pt_cmpR (op_inD (by omega)) pe_int ?i1 (by with_unfolding_all rfl)) (pw_or1 (pt_cmpR (op_inD (by omega)) pe_int ?i2 (by with_unfolding_all rfl))))) (pss_one ps_never) pss_nil) (pss_one (n_for nm PassesOwn.never ?fi ?fg (pss_one (ps_if ?c1 (pss_one ps_never) pss_nil)))))
      case e1 => walk_at "pe"
      case e2 => walk_at "pe"
      case i1 => walk_at "pe"
      case i2 => walk_at "pe"
      case fi => walk_at "pi"
      case fg => walk_at "pg"
      case c1 => walk_at "pt"
    refine ⟨_, rfl, _, rfl, x, _, M, st, n, rfl, hT, hS.one, hn, fun H1 r1 s1 hr10 hr1 => ?_⟩
    refine ⟨_, rfl, _, rfl, y, _, N, su, n, rfl, hU.same s1, hS.two, hn, fun H2 r2 s2 hr20 hr2 => ?_⟩
    have hr1' := s2 _ _ hr1
    have s12 := Same.trans s1 s2
    refine ⟨_, _, rfl, ?_⟩
    refine ⟨_, rfl, in_ints hr1' ?_⟩
    rw [decide_eq_false (totL_none hS.n0)]
    refine ⟨_, rfl, ?_⟩
    refine iteF ⟨_, rfl, in_ints hr2 ?_⟩
    rw [decide_eq_false (totL_none hS.n1)]
    refine ⟨_, rfl, ?_⟩
    refine iteF ?_
    refine ⟨_, rfl, _, rfl, by omega, by omega, for_range (lo := 0) (n := ((n : Int)).toNat) (fun i σ H' => H' = H2 ∧ ∃ v5, σ = [some (.ref x), some (.ref y), some (.int (n : Int)), some (.ref r1), some (.ref r2), v5]) ⟨rfl, none, rfl⟩ ?_ ?_⟩
    · rintro i σ H' hi ⟨rfl, v5, rfl⟩
      rw [Int.toNat_natCast] at hi
      dsimp (config := { proj := false }) only [gName, List.set_cons_succ, List.set_cons_zero]
      rw [Int.zero_add]
      refine ⟨_, rfl, _, rfl, r1, _, _, _, rfl, rfl, SqL.of hr1', totL_at hi, _, rfl, _, rfl, r2, _, _, _, rfl, rfl, SqL.of hr2, totL_at hi, rfl, _, rfl, ?_⟩
      rw [hS.eq i hi]
      rw [show (!decide (V.int (totN (q : Int) N su i) = V.int (totN (q : Int) N su i))) = false by simp]
      refine iteF ?_
      exact ⟨rfl, _, rfl⟩
    · rintro σ H' ⟨rfl, _⟩
      exact k _ s12
theorem scTbw : FnScope ["prime", "ones", "others", "first", "size", "table", "here", "there", "_"] ["prime", "ones", "others", "first", "size"] (defScope sTbw) := ⟨rfl, rfl, rfl, by decide +kernel, rfl, by decide +kernel, by decide +kernel⟩
theorem nmTbw : nmB ["prime", "ones", "others", "first", "size", "table", "here", "there", "_"] [("prime", 0), ("ones", 1), ("others", 2), ("first", 3), ("size", 4), ("table", 5), ("here", 6), ("there", 7), ("_", 8)] ["range"] (defScope sTbw) = true := by decide +kernel
theorem ok_tbw {f : Addr} {fd : FuncData} (F : Fun K "_table_between" "_table_between" sTbw f fd) (B : Bn mg) : FnOk P w K mg base CX0 1 f fd ["prime", "ones", "others", "first", "size"] spTbw := by
  refine F.ok scTbw (fun vs H Q E h => ?_) (fun cdv A outer s H vs Q E hr h => ?_)
  · obtain ⟨o, u, q, N, f, s, F, G, rfl, _⟩ := h
    rfl
  · obtain ⟨o, u, q, N, f, s, F, G, rfl, hP, ho, hu, hF, hG, hf, hs, h9, k⟩ := h
    obtain ⟨b1, b2, b3, b4, b5, b6, b7, b8, b9, b10, b11⟩ := B
    refine' ex_mk ?d ?_
    case d =>
      have nm := nm_of (CX := CX0) (P := P) (w := w) (K := K) (mg := mg) (base := base) (outer := outer) (H := H) (E := E) nmTbw hr
      refine' pss_cons (ps_asg (pe_op op_rep ?s1 ?s2) ?s3) (pss_cons (ps_par (i := 6) (j := 7) rfl nm.nd rfl rfl (by decide) rfl rfl (pa_cons pe_int (pa_cons ?p1 pa_nil)) (by rfl)) (pss_cons (n_for nm PassesOwn.never ?fi ?fg (pss_cons ?c1 (pss_one (ps_par (i := 6) (j := 7) rfl nm.nd rfl rfl (by decide) rfl rfl (pa_cons ?p2 (pa_cons ?p3 pa_nil)) (by rfl))))) (pss_one ?ret)))
      case s1 => walk_at "pe"
      case s2 => walk_at "pe"
      case s3 => walk_at "pg"
      case p1 => walk_at "pe"
      case fi => walk_at "pi"
      case fg => walk_at "pg"
      case c1 => walk_at "ps"
      case p2 => walk_at "pe"
      case p3 => walk_at "pe"
      case ret => walk_at "ps"
    have hq2 := hP.two
    have hN : 0 < N := by omega
    have hA : ∀ i, itF F i 0 < N := fun i => by
      induction i with
      | zero => exact hN
      | succ i ih => exact hF _ ih
    have hB : ∀ i, itF G i f < N := fun i => by
      induction i with
      | zero => exact hf
      | succ i ih => exact hG _ ih
    have hsl : (20000 : Nat) < sizeLine := by rw [sizeLine_eq]; decide
    refine ⟨by show 1 ≤ sizeLine; decide, fun q0 hq0 => ?_⟩
    refine ⟨_, rfl, q0, _, [.int 0], rfl, rfl, upd_same, by omega, by omega, by rw [Int.toNat_natCast]; show 1 * s ≤ sizeLine; omega, fun l hl => ?_⟩
    rw [Int.toNat_natCast, flat_rep0u]
    have sl : Same H (upd (upd H q0 (.lst [.int 0])) l (.lst ((List.replicate s (0 : Int)).map V.int))) := same_add (same_new hq0) hl
    have hl0 : H l = none := Same.free (same_new hq0) hl
    have hll : upd (upd H q0 (.lst [.int 0])) l (.lst ((List.replicate s (0 : Int)).map V.int)) l = some (.lst ((List.replicate s (0 : Int)).map V.int)) := upd_same
    generalize upd (upd H q0 (.lst [.int 0])) l (.lst ((List.replicate s (0 : Int)).map V.int)) = H1 at sl hll ⊢
    refine ⟨_, rfl, _, _, rfl, ?_⟩
    refine ⟨_, rfl, _, rfl, by omega, by omega, for_range (lo := 0) (n := ((s : Int)).toNat) (fun i σ H' => Same H H' ∧ ∃ (U : List Int) (v8 : Option V), σ = [some (.int (q : Int)), some (.ref o), some (.ref u), some (.int (f : Int)), some (.int (s : Int)), some (.ref l), some (.int ((itF F i 0 : Nat) : Int)), some (.int ((itF G i f : Nat) : Int)), v8] ∧ H' l = some (.lst (U.map V.int)) ∧ U.length = s ∧ tbW q F G s (s - i) (itF F i 0) (itF G i f) U = tbW q F G s s 0 f (List.replicate s 0))
      ⟨sl, _, none, rfl, hll, List.length_replicate, rfl⟩ ?_ ?_⟩
    · rintro i σ H2 hi ⟨s2, U, v8, rfl, hU, hUl, hUt⟩
      rw [Int.toNat_natCast] at hi
      dsimp (config := { proj := false }) only [gName, List.set_cons_succ, List.set_cons_zero]
      refine ⟨_, rfl, _, rfl, _, _, rfl, rfl, ⟨by omega, by omega⟩, _, rfl, _, rfl, _, _, rfl, rfl, ⟨by omega, by omega⟩, ?_⟩
      refine ⟨_, _, rfl, rfl, _, rfl, _, _, rfl, rfl, (by show (0 : Int) < (q : Int); omega), ?_⟩
      refine ⟨_, rfl, _, rfl, _, rfl, _, _, rfl, rfl, (by show (0 : Int) < (s : Int); omega), ?_⟩
      have hm : itF F i 0 % s < s := Nat.mod_lt _ hs
      refine ⟨l, _, _, itF F i 0 % s, rfl, rfl, hU, by rw [← Int.natCast_emod, ixN_inu (by omega) (by rw [List.length_map, hUl]; omega)]; rfl, ?_⟩
      have s3 := same_put (o := .lst ((U.map V.int).set (itF F i 0 % s) (.int ((((itF G i f : Nat) : Int) / (s : Int) - ((itF F i 0 : Nat) : Int) / (s : Int)) % (q : Int))))) s2 hl0
      refine ⟨_, rfl, _, rfl, o, _, _, _, rfl, rfl, SqL.of (s3 _ _ ho), rngF_at (hA i), _, rfl, _, rfl, u, _, _, _, rfl, rfl, SqL.of (s3 _ _ hu), rngF_at (hB i), ?_⟩
      refine ⟨_, _, rfl, ?_⟩
      refine ⟨s3, U.set (itF F i 0 % s) ((((itF G i f / s : Nat) : Int) - ((itF F i 0 / s : Nat) : Int)) % (q : Int)), _, rfl, ?_, by rw [List.length_set, hUl], ?_⟩
      · rw [upd_same, List.map_set, Int.natCast_ediv, Int.natCast_ediv]
      · rw [← hUt, show s - i = (s - (i + 1)) + 1 by omega]; rfl
    · rintro σ H2 ⟨s2, U, v8, rfl, hU, hUl, hUt⟩
      rw [Int.toNat_natCast, Nat.sub_self] at hUt
      have e : U = tbW q F G s s 0 f (List.replicate s 0) := hUt
      rw [e] at hU
      exact ⟨_, rfl, k _ l s2 hl0 hU⟩
end

abbrev sRl : Stmt := top 51
/-- a relabelling between two single turners; the figures chosen as a list, or as a tuple -/
def spRlX (K : PySem.W.Frag) (C CR : Addr) (Ch : Hp → Addr → List Int → Prop) : Sp := fun vs H Q _ => ∃ (x y c : Addr) (q n : Nat) (M N : Mach) (st su : Int) (ds : List Int), vs = [.ref x, .ref y, .int (n : Int), .ref c] ∧ TurAt C H x (q : Int) M st ∧ TurAt C H y (q : Int) N su ∧ TwoS q M st N su n ∧
  Ch H c ds ∧ Figs (q : Int) ds ∧ ds.length ≤ 200 ∧ n ≤ 8 ∧ (∀ k, k < n → q ^ k ≤ 500) ∧ q ^ n ≤ 900 ∧ ∀ H' r f, Same H H' → H r = none → valD (q : Int) (ds.take n) = ((f : Nat) : Int) → RelAt CR H' r (q : Int) (relT q M st N su n f) → Q (.ref r) H'
def chL (H : Hp) (c : Addr) (ds : List Int) : Prop := H c = some (.lst (ds.map V.int))
def chT (K : PySem.W.Frag) (H : Hp) (c : Addr) (ds : List Int) : Prop := (ds = [] ∧ SqT K H c []) ∨ H c = some (.tup (ds.map V.int))
theorem no_partR {σ : L2.St} {H : Hp} {k : Option Int → Hp → Prop} (h : k none H) : tNoPart σ H k := h
theorem sl_chT {K : PySem.W.Frag} {H : Hp} {c : Addr} {ds : List Int} {n : Nat} {z : Int} {Q : V → Hp → Prop} (hz : z = (n : Int)) (h : chT K H c ds) (k : ∀ r H', Same H H' → SqT K H' r ((ds.take n).map V.int) → Q (.ref r) H') : rSlA K (.ref c) none (some z) H Q := by
  rcases h with ⟨rfl, h⟩ | h
  · refine ⟨c, [], rfl, h, fun _ => k c H (fun _ _ e => e) (by rw [List.take_nil]; exact h), fun z => absurd ⟨?_, ?_⟩ z⟩
    · subst hz; rfl
    · subst hz
      rw [HT.sIx_nat]
      show min n 0 = 0
      exact Nat.min_zero n
  · exact sl_anyZ hz h fun r H' s hr => k r H' s (by rw [List.map_take]; exact SqT.of hr)
section
variable {P : Program} {w : World} {K : PySem.W.Frag} {mg : Str → Option Value} {base : Heap} {C CR : Addr} {aP : Addr} {tD : Tok}
def nRl : List Str := ["one", "other", "dials", "chosen", "prime", "ones", "others", "first", "sizes", "dial", "size"]
theorem scRl : FnScope nRl ["one", "other", "dials", "chosen"] (defScope sRl) := ⟨rfl, rfl, rfl, by decide +kernel, rfl, by decide +kernel, by decide +kernel⟩
theorem nmRl : nmB nRl [("one", 0), ("other", 1), ("dials", 2), ("chosen", 3), ("prime", 4), ("ones", 5), ("others", 6), ("first", 7), ("sizes", 8)] ["check_count", "MOST_DIALS", "count_settings", "_check_chosen", "_check_totals", "images", "tables_of", "number_of", "tuple", "range", "Relabelling"] (defScope sRl) = true := by decide +kernel
theorem ok_rlL {f : Addr} {fd : FuncData} (F : Fun K "relabel" "relabel" sRl f fd) (B : Bn mg) (g : Gv K mg aP tD) (T' : Tc K C) (EP : Pf P w K mg base 1 C "prime" ["self"] (getSp C "_prime"))
    (XC : Df P w K mg base 2 "check_count" ["value", "least", "most"] spCC) (XH : Df P w K mg base 3 "_check_chosen" ["prime", "chosen"] (spChG K)) (XT : Df P w K mg base 7 "_check_totals" ["one", "other", "dials"] (spCTG C))
    (DI : Df P w K mg base 1 "images" ["prime", "tables"] spIm) (DT : Df P w K mg base 3 "tables_of" ["turner", "dials"] (spTO C)) (DN : Df P w K mg base 5 "number_of" ["prime", "setting"] (spNoA K)) (DS : Df P w K mg base 1 "count_settings" ["prime", "dials"] spCoS) (DB : Df P w K mg base 1 "_table_between" ["prime", "ones", "others", "first", "size"] spTbw)
    (hmR : mg "Relabelling" = some (.ref CR)) (KR : Kdl P w K mg base 5 CR ["self", "prime", "tables"] (spRIn CR)) : FnOk P w K mg base CX0 13 f fd ["one", "other", "dials", "chosen"] (spRlX K C CR chL) := by
  refine F.ok scRl (fun vs H Q E h => ?_) (fun cdv A outer s H vs Q E hr h => ?_)
  · obtain ⟨x, y, c, q, n, M, N, st, su, ds, rfl, _⟩ := h
    rfl
  · obtain ⟨x, y, c, q, n, M, N, st, su, ds, rfl, hT, hU, hS, hch, hFg, hl2, hn, h500, h900, kk0⟩ := h
    have hcl := T'.cl
    have g3 := g.dials
    obtain ⟨b1, b2, b3, b4, b5, b6, b7, b8, b9, b10, b11⟩ := B
    refine' ex_mk ?d ?_
    case d =>
      have nm0 := nm_of (CX := CX0) (P := P) (w := w) (K := K) (mg := mg) (base := base) (outer := outer) (H := H) (E := E) nmRl hr
      refine' pss_cons (ps_if (pt_cmpR op_ne (n_p nm0 hcl EP (by decide) ?c1) (n_p nm0 hcl EP (by decide) ?c2) (nomark _)) (pss_one ps_never) pss_nil)
        (pss_cons (ps_asg (n_p nm0 hcl EP (by decide) ?c3) ?gp) (pss_cons (ps_expr (n_d nm0 XC (by decide) ?g2 (pa_cons ?c4 (pa_cons pe_int (pa_cons ?c5 pa_nil)))))
        (pss_cons (ps_expr (n_d nm0 DS (by decide) ?g3 (pa_cons ?c6 (pa_cons ?c7 pa_nil)))) (pss_cons (ps_expr (n_d nm0 XH (by decide) ?g4 (pa_cons ?c8 (pa_cons ?c9 pa_nil))))
        (pss_cons (ps_expr (n_d nm0 XT (by decide) ?g5 (pa_cons ?d1 (pa_cons ?d2 (pa_cons ?d3 pa_nil))))) ?rest)))))
      case c1 => walk_at "pe"
      case c2 => walk_at "pe"
      case c3 => walk_at "pe"
      case gp => walk_at "pg"
      case g2 => walk_at "mem"
      case c4 => walk_at "pe"
      case c5 => walk_at "pe"
      case g3 => walk_at "mem"
      case c6 => walk_at "pe"
      case c7 => walk_at "pe"
      case g4 => walk_at "mem"
      case c8 => walk_at "pe"
      case c9 => walk_at "pe"
      case g5 => walk_at "mem"
      case d1 => walk_at "pe"
      case d2 => walk_at "pe"
      case d3 => walk_at "pe"
      case rest =>
        refine' pss_cons (ps_asg (pe_tup (pa_cons (n_d nm0 DI (by decide) ?i0 (pa_cons ?i1 (pa_cons (n_d nm0 DT (by decide) ?i2 (pa_cons ?i3 (pa_cons ?i4 pa_nil))) pa_nil))) (pa_cons (n_d nm0 DI (by decide) ?i5 (pa_cons ?i6 (pa_cons (n_d nm0 DT (by decide) ?i7 (pa_cons ?i8 (pa_cons ?i9 pa_nil))) pa_nil))) pa_nil))) ?ig)
          (pss_cons (ps_asg (n_d nm0 DN (by decide) ?j1 (pa_cons ?j2 (pa_cons (n_t (x := "tuple") nm0 b5 call_tuple_of PyProof.Rows.boot_tuple ?j3 (pa_cons (pe_slice sl_list ?j4 po_none (po_some ?j5)) pa_nil)) pa_nil))) ?j6)
          (pss_cons (n_setLc (i := 8) (own := [("dial", 9)]) (g := gName 9) (NS' := [("prime", 4), ("dial", 9)]) (WS' := [("dial", 9)]) (G' := ["count_settings"]) (N := nRl) (scD := defScope sRl) nm0 (by walk_at "mem") rfl rfl rfl (by decide +kernel) (by decide +kernel) (sw_true rfl rfl rfl (by decide +kernel)) (n_rng nm0 b6 ?k1 (pa_cons ?k2 pa_nil)) (fun X' nm2 => ?k3) (fun X' nm2 => ?k4))
          (pss_one (ps_ret (n_mkA nm0 hmR KR (by decide) ?l1 (pa_cons ?l2 (pa_cons (n_lc (own := [("size", 10)]) (g := gName 10) (NS' := [("prime", 4), ("ones", 5), ("others", 6), ("first", 7), ("size", 10)]) (WS' := [("size", 10)]) (G' := ["_table_between"]) (N := nRl) (scD := defScope sRl) nm0 rfl rfl (by decide +kernel) (by decide +kernel) (pi_list ?l3) (fun X' nm2 => ?l4) (fun X' nm2 => ?l5)) pa_nil)))))))
        case i0 => walk_at "mem"
        case i1 => walk_at "pe"
        case i2 => walk_at "mem"
        case i3 => walk_at "pe"
        case i4 => walk_at "pe"
        case i5 => walk_at "mem"
        case i6 => walk_at "pe"
        case i7 => walk_at "mem"
        case i8 => walk_at "pe"
        case i9 => walk_at "pe"
        case ig => walk_at "pg"
        case j1 => walk_at "mem"
        case j2 => walk_at "pe"
        case j3 => walk_at "mem"
        case j4 => walk_at "pe"
        case j5 => walk_at "pe"
        case j6 => walk_at "pg"
        case k1 => walk_at "mem"
        case k2 => walk_at "pe"
        case k3 => walk_at "pg"
        case k4 => refine' n_d nm2 DS (by decide) ?m1 (pa_cons ?m2 (pa_cons ?m3 pa_nil)); (case m1 => walk_at "mem"); (case m2 => walk_at "pe"); (case m3 => walk_at "pe")
        case l1 => walk_at "mem"
        case l2 => walk_at "pe"
        case l3 => walk_at "pe"
        case l4 => walk_at "pg"
        case l5 => refine' n_d nm2 DB (by decide) ?m4 (pa_cons ?n1 (pa_cons ?n2 (pa_cons ?n3 (pa_cons ?n4 (pa_cons ?n5 pa_nil))))); (case m4 => walk_at "mem"); (case n1 => walk_at "pe"); (case n2 => walk_at "pe"); (case n3 => walk_at "pe"); (case n4 => walk_at "pe"); (case n5 => walk_at "pe")
    obtain ⟨dx, tx, xx, h1, h2, h3⟩ := id hT
    obtain ⟨dy, ty, yy, k1, k2, k3⟩ := id hU
    have hP := hS.one.pr
    have hp2 := hP.two
    have hq : 0 < q := by omega
    have hpw : (q : Int) ^ n ≤ 20000 := by
      rw [← Int.natCast_pow]
      exact Int.ofNat_le.mpr (Nat.le_trans h900 (by decide))
    have hpk : ∀ k, k < n → (q : Int) ^ k ≤ 20000 := fun k hk => by
      rw [← Int.natCast_pow]
      exact Int.ofNat_le.mpr (Nat.le_trans (h500 k hk) (by decide))
    refine ⟨_, rfl, x, dx, _, rfl, h1, x, dx, _, _, rfl, h1, tf_p _ _ _, ?_⟩
    refine ⟨_, rfl, y, dy, _, rfl, k1, y, dy, _, _, rfl, k1, tf_p _ _ _, ?_⟩
    refine ⟨rfl, _, rfl, ?_⟩
    rw [decide_eq_true rfl]
    refine iteF ?_
    refine ⟨_, rfl, x, dx, _, rfl, h1, x, dx, _, _, rfl, h1, tf_p _ _ _, ?_⟩
    refine ⟨_, rfl, _, 0, 200, rfl, by omega, by omega, ?_⟩
    refine ⟨_, rfl, _, rfl, _, n, rfl, hP, hpw, by omega, ?_⟩
    refine ⟨_, rfl, _, rfl, _, c, ds, rfl, hP, .inr (SqL.of hch), hFg, ?_⟩
    refine ⟨_, rfl, _, rfl, _, rfl, x, y, q, n, M, N, st, su, rfl, hT, hU, by omega, hS, fun H1 s1 => ?_⟩
    refine ⟨_, rfl, _, rfl, _, rfl, x, q, n, M, st, rfl, hT.same s1, hS.one, Nat.le_trans h900 (by decide), by omega, fun H2 r2 ys2 s2 hr20 hr2 hR2 _ => ?_⟩
    refine ⟨q, r2, ys2, tabM q M st n, rfl, .inl hr2, rowsL_li hR2, tabM_ok hS.one (by omega) hpw, fun H3 r3 s3 hr30 hr3 => ?_⟩
    have s13 := Same.trans s1 (Same.trans s2 s3)
    refine ⟨_, rfl, _, rfl, _, rfl, y, q, n, N, su, rfl, hU.same s13, hS.two, Nat.le_trans h900 (by decide), by omega, fun H4 r4 ys4 s4 hr40 hr4 hR4 _ => ?_⟩
    refine ⟨q, r4, ys4, tabM q N su n, rfl, .inl hr4, rowsL_li hR4, tabM_ok hS.two (by omega) hpw, fun H5 r5 s5 hr50 hr5 => ?_⟩
    rw [tabM_len] at hr3 hr5
    have s15 := Same.trans s13 (Same.trans s4 s5)
    have hr3 := s5 _ _ (s4 _ _ hr3)
    refine ⟨by show 2 ≤ sizeLine; decide, fun q6 hq6 => ?_⟩
    have s6 := same_new (o := .tup [.ref r3, .ref r5]) hq6
    refine ⟨q6, _, rfl, SqT.of upd_same, rfl, _, _, rfl, _, _, rfl, rfl, ?_⟩
    have hr3 := s6 _ _ hr3
    have hr5 := s6 _ _ hr5
    generalize upd H5 q6 (.tup [.ref r3, .ref r5]) = H6 at s6 hr3 hr5 ⊢
    have s16 := Same.trans s15 s6
    obtain ⟨f, hf, hfl⟩ := valD_nat hq (ds := ds.take n) fun d hd => hFg d (List.mem_of_mem_take hd)
    have hfn : f < q ^ n := Nat.lt_of_lt_of_le hfl (Nat.pow_le_pow_right hq (by rw [List.length_take]; omega))
    have hFt : Figs (q : Int) (ds.take n) := fun d hd => hFg d (List.mem_of_mem_take hd)
    have hlt : (ds.take n).length ≤ 200 := by rw [List.length_take]; omega
    refine ⟨_, rfl, _, rfl, ?_⟩
    refine no_partR ?_
    refine ⟨_, rfl, _, rfl, ?_⟩
    refine sl_listZ (n := n) rfl (s16 _ _ hch) fun rr H7a s7a hrr => ?_
    refine ⟨rr, _, rfl, .inl ⟨SqL.of hrr, fun ta hta0 => ?_⟩⟩
    have s67 : Same H6 (upd H7a ta (.tup ((ds.map V.int).take n))) := Same.trans s7a (same_new hta0)
    have hta : SqT K (upd H7a ta (.tup ((ds.map V.int).take n))) ta ((ds.take n).map V.int) := by rw [List.map_take]; exact SqT.of upd_same
    refine ⟨_, ta, ds.take n, rfl, hP, hta, hFt, hlt, fun H8 s8 => ?_⟩
    rw [hf]
    have s68 := Same.trans s67 s8
    have s18 := Same.trans s16 s68
    try dsimp (config := { proj := false }) only [gName, List.set_cons_succ, List.set_cons_zero]
    refine ⟨_, rfl, _, rfl, by omega, by omega, fun D8 hD8 => ?_⟩
    rw [Int.toNat_natCast]
    refine lcR (n := n) (fs := (List.range n).map fun k : Nat => V.int ((q ^ k : Nat) : Int)) hD8 (by simp) (small1000 (by omega)) (fun j z H' Qk hz sz kk => ?_) ?_ (fun x => rfl)
    · rw [List.getElem?_map] at hz
      obtain ⟨j2, e1, e2⟩ := Option.map_eq_some_iff.mp hz
      have hj := (List.getElem?_eq_some_iff.mp e1).1
      rw [List.length_range] at hj
      rw [List.getElem?_range hj] at e1
      obtain rfl := Option.some.inj e1
      subst e2
      refine ⟨_, rfl, _, rfl, _, j, ?_, hP, hpk j hj, by omega, ?_⟩
      · rw [Int.zero_add]
      · rw [← Int.natCast_pow]
        exact kk H' fun _ _ e => e
    intro H9 s9 hl9
    have s69 := Same.trans s68 s9
    have s19 := Same.trans s18 s9
    try dsimp (config := { proj := false }) only [gName, List.set_cons_succ, List.set_cons_zero]
    refine ⟨_, rfl, _, rfl, D8, rfl, ⟨_, SqL.of hl9⟩, fun D9 hD9 => ?_⟩
    refine lcN (K := K) (xs := (List.range n).map fun k : Nat => V.int ((q ^ k : Nat) : Int)) (R := fun i z H => ∃ e, z = .ref e ∧ e ≠ D9 ∧ H e = some (.lst ((tbW q (imM q (tabM q M st n) n) (imM q (tabM q N su n) n) (q ^ i) (q ^ i) 0 f (List.replicate (q ^ i) 0)).map V.int))) (sj_L (K := K) fun H6 s6 => SqL.of (s6 _ _ hl9)) hD9 (by rw [List.length_map, List.length_range]; exact small1000 (by omega))
      (fun i y H H' e ⟨e1, z1, z2, z3⟩ => ⟨e1, z1, z2, e _ _ z3⟩) (fun i y H zs ⟨e1, z1, z2, z3⟩ => ⟨e1, z1, z2, by rw [upd_ne z2]; exact z3⟩) ?_ ?_ gm_name
    · intro j z H10 Qk hz s10 hys kk
      obtain ⟨yy, hyy⟩ := hys
      rw [List.getElem?_map] at hz
      obtain ⟨j2, e1, e2⟩ := Option.map_eq_some_iff.mp hz
      have hj := (List.getElem?_eq_some_iff.mp e1).1
      rw [List.length_range] at hj
      rw [List.getElem?_range hj] at e1
      obtain rfl := Option.some.inj e1
      subst e2
      have s610 := Same.trans s69 s10
      refine ⟨rfl, ?_⟩
      refine ⟨_, rfl, _, rfl, _, rfl, _, rfl, _, rfl, r3, r5, q, q ^ n, f, q ^ j, imM q (tabM q M st n) n, imM q (tabM q N su n) n, rfl, hP, s610 _ _ hr3, s610 _ _ hr5, fun i hi => imM_lt hq _ n i hi, fun i hi => imM_lt hq _ n i hi, hfn, Nat.pow_pos hq, Nat.le_trans (h500 j hj) (by decide), fun H11 r s11 hr0 hr1 => ?_⟩
      exact kk (.ref r) H11 s11 ⟨r, rfl, (ne_of_none hyy hr0).symm, hr1⟩
    · intro ys H10 s10 hD10 hyl hRR
      rw [List.length_map, List.length_range] at hyl
      have s1a := Same.trans s19 s10
      intro y9 dy9 ny9 ndy9 ney9
      have su9 : Same H10 (upd (upd H10 dy9 (.own y9)) y9 (.ins CR dy9 [])) := fun c o e => by
        rw [upd_ne (ne_of_none e ny9), upd_ne (ne_of_none e ndy9)]; exact e
      have hRows : RowsL (upd (upd H10 dy9 (.own y9)) y9 (.ins CR dy9 [])) ys (relT q M st N su n f) := ⟨by rw [hyl, relT_len], fun i v r h1 h2 => by
        have hi : i < n := by rw [← hyl]; exact (List.getElem?_eq_some_iff.mp h1).1
        rw [relT_row hi] at h2
        obtain rfl := Option.some.inj h2
        obtain ⟨e, z1, _, z3⟩ := hRR i v h1
        exact ⟨e, z1, .inl (su9 _ _ z3)⟩⟩
      refine ⟨y9, dy9, q, D9, ys, relT q M st N su n f, rfl, upd_same, .inl (su9 _ _ hD10), hRows, relT_ok hS hn h500 (Nat.le_trans h900 (by decide)), fun Hv tv zv hkv htv hRTv hyv => ⟨rfl, ?_⟩⟩
      exact kk0 Hv y9 f (fun c o e => hkv c o (ne_of_none (s1a _ _ e) ny9) (su9 _ _ (s1a _ _ e))) (s1a.free ny9) hf ⟨dy9, tv, zv, hyv, htv, hRTv⟩
theorem ok_rlT {f : Addr} {fd : FuncData} (F : Fun K "relabel" "relabel" sRl f fd) (B : Bn mg) (g : Gv K mg aP tD) (T' : Tc K C) (EP : Pf P w K mg base 1 C "prime" ["self"] (getSp C "_prime"))
    (XC : Df P w K mg base 2 "check_count" ["value", "least", "most"] spCC) (XH : Df P w K mg base 3 "_check_chosen" ["prime", "chosen"] (spChG K)) (XT : Df P w K mg base 7 "_check_totals" ["one", "other", "dials"] (spCTG C))
    (DI : Df P w K mg base 1 "images" ["prime", "tables"] spIm) (DT : Df P w K mg base 3 "tables_of" ["turner", "dials"] (spTO C)) (DN : Df P w K mg base 5 "number_of" ["prime", "setting"] (spNoA K)) (DS : Df P w K mg base 1 "count_settings" ["prime", "dials"] spCoS) (DB : Df P w K mg base 1 "_table_between" ["prime", "ones", "others", "first", "size"] spTbw)
    (hmR : mg "Relabelling" = some (.ref CR)) (KR : Kdl P w K mg base 5 CR ["self", "prime", "tables"] (spRIn CR)) : FnOk P w K mg base CX0 13 f fd ["one", "other", "dials", "chosen"] (spRlX K C CR (chT K)) := by
  refine F.ok scRl (fun vs H Q E h => ?_) (fun cdv A outer s H vs Q E hr h => ?_)
  · obtain ⟨x, y, c, q, n, M, N, st, su, ds, rfl, _⟩ := h
    rfl
  · obtain ⟨x, y, c, q, n, M, N, st, su, ds, rfl, hT, hU, hS, hch, hFg, hl2, hn, h500, h900, kk0⟩ := h
    have hcl := T'.cl
    have g3 := g.dials
    obtain ⟨b1, b2, b3, b4, b5, b6, b7, b8, b9, b10, b11⟩ := B
    refine' ex_mk ?d ?_
    case d =>
      have nm0 := nm_of (CX := CX0) (P := P) (w := w) (K := K) (mg := mg) (base := base) (outer := outer) (H := H) (E := E) nmRl hr
      refine' pss_cons (ps_if (pt_cmpR op_ne (n_p nm0 hcl EP (by decide) ?c1) (n_p nm0 hcl EP (by decide) ?c2) (nomark _)) (pss_one ps_never) pss_nil)
        (pss_cons (ps_asg (n_p nm0 hcl EP (by decide) ?c3) ?gp) (pss_cons (ps_expr (n_d nm0 XC (by decide) ?g2 (pa_cons ?c4 (pa_cons pe_int (pa_cons ?c5 pa_nil)))))
        (pss_cons (ps_expr (n_d nm0 DS (by decide) ?g3 (pa_cons ?c6 (pa_cons ?c7 pa_nil)))) (pss_cons (ps_expr (n_d nm0 XH (by decide) ?g4 (pa_cons ?c8 (pa_cons ?c9 pa_nil))))
        (pss_cons (ps_expr (n_d nm0 XT (by decide) ?g5 (pa_cons ?d1 (pa_cons ?d2 (pa_cons ?d3 pa_nil))))) ?rest)))))
      case c1 => walk_at "pe"
      case c2 => walk_at "pe"
      case c3 => walk_at "pe"
      case gp => walk_at "pg"
      case g2 => walk_at "mem"
      case c4 => walk_at "pe"
      case c5 => walk_at "pe"
      case g3 => walk_at "mem"
      case c6 => walk_at "pe"
      case c7 => walk_at "pe"
      case g4 => walk_at "mem"
      case c8 => walk_at "pe"
      case c9 => walk_at "pe"
      case g5 => walk_at "mem"
      case d1 => walk_at "pe"
      case d2 => walk_at "pe"
      case d3 => walk_at "pe"
      case rest =>
        refine' pss_cons (ps_asg (pe_tup (pa_cons (n_d nm0 DI (by decide) ?i0 (pa_cons ?i1 (pa_cons (n_d nm0 DT (by decide) ?i2 (pa_cons ?i3 (pa_cons ?i4 pa_nil))) pa_nil))) (pa_cons (n_d nm0 DI (by decide) ?i5 (pa_cons ?i6 (pa_cons (n_d nm0 DT (by decide) ?i7 (pa_cons ?i8 (pa_cons ?i9 pa_nil))) pa_nil))) pa_nil))) ?ig)
          (pss_cons (ps_asg (n_d nm0 DN (by decide) ?j1 (pa_cons ?j2 (pa_cons (n_t (x := "tuple") nm0 b5 call_tuple_of PyProof.Rows.boot_tuple ?j3 (pa_cons (pe_slice sl_tupA ?j4 po_none (po_some ?j5)) pa_nil)) pa_nil))) ?j6)
          (pss_cons (n_setLc (i := 8) (own := [("dial", 9)]) (g := gName 9) (NS' := [("prime", 4), ("dial", 9)]) (WS' := [("dial", 9)]) (G' := ["count_settings"]) (N := nRl) (scD := defScope sRl) nm0 (by walk_at "mem") rfl rfl rfl (by decide +kernel) (by decide +kernel) (sw_true rfl rfl rfl (by decide +kernel)) (n_rng nm0 b6 ?k1 (pa_cons ?k2 pa_nil)) (fun X' nm2 => ?k3) (fun X' nm2 => ?k4))
          (pss_one (ps_ret (n_mkA nm0 hmR KR (by decide) ?l1 (pa_cons ?l2 (pa_cons (n_lc (own := [("size", 10)]) (g := gName 10) (NS' := [("prime", 4), ("ones", 5), ("others", 6), ("first", 7), ("size", 10)]) (WS' := [("size", 10)]) (G' := ["_table_between"]) (N := nRl) (scD := defScope sRl) nm0 rfl rfl (by decide +kernel) (by decide +kernel) (pi_list ?l3) (fun X' nm2 => ?l4) (fun X' nm2 => ?l5)) pa_nil)))))))
        case i0 => walk_at "mem"
        case i1 => walk_at "pe"
        case i2 => walk_at "mem"
        case i3 => walk_at "pe"
        case i4 => walk_at "pe"
        case i5 => walk_at "mem"
        case i6 => walk_at "pe"
        case i7 => walk_at "mem"
        case i8 => walk_at "pe"
        case i9 => walk_at "pe"
        case ig => walk_at "pg"
        case j1 => walk_at "mem"
        case j2 => walk_at "pe"
        case j3 => walk_at "mem"
        case j4 => walk_at "pe"
        case j5 => walk_at "pe"
        case j6 => walk_at "pg"
        case k1 => walk_at "mem"
        case k2 => walk_at "pe"
        case k3 => walk_at "pg"
        case k4 => refine' n_d nm2 DS (by decide) ?m1 (pa_cons ?m2 (pa_cons ?m3 pa_nil)); (case m1 => walk_at "mem"); (case m2 => walk_at "pe"); (case m3 => walk_at "pe")
        case l1 => walk_at "mem"
        case l2 => walk_at "pe"
        case l3 => walk_at "pe"
        case l4 => walk_at "pg"
        case l5 => refine' n_d nm2 DB (by decide) ?m4 (pa_cons ?n1 (pa_cons ?n2 (pa_cons ?n3 (pa_cons ?n4 (pa_cons ?n5 pa_nil))))); (case m4 => walk_at "mem"); (case n1 => walk_at "pe"); (case n2 => walk_at "pe"); (case n3 => walk_at "pe"); (case n4 => walk_at "pe"); (case n5 => walk_at "pe")
    obtain ⟨dx, tx, xx, h1, h2, h3⟩ := id hT
    obtain ⟨dy, ty, yy, k1, k2, k3⟩ := id hU
    have hP := hS.one.pr
    have hp2 := hP.two
    have hq : 0 < q := by omega
    have hpw : (q : Int) ^ n ≤ 20000 := by
      rw [← Int.natCast_pow]
      exact Int.ofNat_le.mpr (Nat.le_trans h900 (by decide))
    have hpk : ∀ k, k < n → (q : Int) ^ k ≤ 20000 := fun k hk => by
      rw [← Int.natCast_pow]
      exact Int.ofNat_le.mpr (Nat.le_trans (h500 k hk) (by decide))
    refine ⟨_, rfl, x, dx, _, rfl, h1, x, dx, _, _, rfl, h1, tf_p _ _ _, ?_⟩
    refine ⟨_, rfl, y, dy, _, rfl, k1, y, dy, _, _, rfl, k1, tf_p _ _ _, ?_⟩
    refine ⟨rfl, _, rfl, ?_⟩
    rw [decide_eq_true rfl]
    refine iteF ?_
    refine ⟨_, rfl, x, dx, _, rfl, h1, x, dx, _, _, rfl, h1, tf_p _ _ _, ?_⟩
    refine ⟨_, rfl, _, 0, 200, rfl, by omega, by omega, ?_⟩
    refine ⟨_, rfl, _, rfl, _, n, rfl, hP, hpw, by omega, ?_⟩
    refine ⟨_, rfl, _, rfl, _, c, ds, rfl, hP, (by
      rcases hch with ⟨rfl, h⟩ | h
      · exact .inl h
      · exact .inl (SqT.of h)), hFg, ?_⟩
    refine ⟨_, rfl, _, rfl, _, rfl, x, y, q, n, M, N, st, su, rfl, hT, hU, by omega, hS, fun H1 s1 => ?_⟩
    refine ⟨_, rfl, _, rfl, _, rfl, x, q, n, M, st, rfl, hT.same s1, hS.one, Nat.le_trans h900 (by decide), by omega, fun H2 r2 ys2 s2 hr20 hr2 hR2 _ => ?_⟩
    refine ⟨q, r2, ys2, tabM q M st n, rfl, .inl hr2, rowsL_li hR2, tabM_ok hS.one (by omega) hpw, fun H3 r3 s3 hr30 hr3 => ?_⟩
    have s13 := Same.trans s1 (Same.trans s2 s3)
    refine ⟨_, rfl, _, rfl, _, rfl, y, q, n, N, su, rfl, hU.same s13, hS.two, Nat.le_trans h900 (by decide), by omega, fun H4 r4 ys4 s4 hr40 hr4 hR4 _ => ?_⟩
    refine ⟨q, r4, ys4, tabM q N su n, rfl, .inl hr4, rowsL_li hR4, tabM_ok hS.two (by omega) hpw, fun H5 r5 s5 hr50 hr5 => ?_⟩
    rw [tabM_len] at hr3 hr5
    have s15 := Same.trans s13 (Same.trans s4 s5)
    have hr3 := s5 _ _ (s4 _ _ hr3)
    refine ⟨by show 2 ≤ sizeLine; decide, fun q6 hq6 => ?_⟩
    have s6 := same_new (o := .tup [.ref r3, .ref r5]) hq6
    refine ⟨q6, _, rfl, SqT.of upd_same, rfl, _, _, rfl, _, _, rfl, rfl, ?_⟩
    have hr3 := s6 _ _ hr3
    have hr5 := s6 _ _ hr5
    generalize upd H5 q6 (.tup [.ref r3, .ref r5]) = H6 at s6 hr3 hr5 ⊢
    have s16 := Same.trans s15 s6
    obtain ⟨f, hf, hfl⟩ := valD_nat hq (ds := ds.take n) fun d hd => hFg d (List.mem_of_mem_take hd)
    have hfn : f < q ^ n := Nat.lt_of_lt_of_le hfl (Nat.pow_le_pow_right hq (by rw [List.length_take]; omega))
    have hFt : Figs (q : Int) (ds.take n) := fun d hd => hFg d (List.mem_of_mem_take hd)
    have hlt : (ds.take n).length ≤ 200 := by rw [List.length_take]; omega
    refine ⟨_, rfl, _, rfl, ?_⟩
    refine no_partR ?_
    refine ⟨_, rfl, _, rfl, ?_⟩
    refine sl_chT (n := n) rfl (by
      rcases hch with ⟨e, h⟩ | h
      · exact .inl ⟨e, sqT_same s16 h⟩
      · exact .inr (s16 _ _ h)) fun ta H7a s67 hta => ?_
    refine ⟨ta, _, rfl, .inr ⟨hta, ?_⟩⟩
    refine ⟨_, ta, ds.take n, rfl, hP, hta, hFt, hlt, fun H8 s8 => ?_⟩
    rw [hf]
    have s68 := Same.trans s67 s8
    have s18 := Same.trans s16 s68
    try dsimp (config := { proj := false }) only [gName, List.set_cons_succ, List.set_cons_zero]
    refine ⟨_, rfl, _, rfl, by omega, by omega, fun D8 hD8 => ?_⟩
    rw [Int.toNat_natCast]
    refine lcR (n := n) (fs := (List.range n).map fun k : Nat => V.int ((q ^ k : Nat) : Int)) hD8 (by simp) (small1000 (by omega)) (fun j z H' Qk hz sz kk => ?_) ?_ (fun x => rfl)
    · rw [List.getElem?_map] at hz
      obtain ⟨j2, e1, e2⟩ := Option.map_eq_some_iff.mp hz
      have hj := (List.getElem?_eq_some_iff.mp e1).1
      rw [List.length_range] at hj
      rw [List.getElem?_range hj] at e1
      obtain rfl := Option.some.inj e1
      subst e2
      refine ⟨_, rfl, _, rfl, _, j, ?_, hP, hpk j hj, by omega, ?_⟩
      · rw [Int.zero_add]
      · rw [← Int.natCast_pow]
        exact kk H' fun _ _ e => e
    intro H9 s9 hl9
    have s69 := Same.trans s68 s9
    have s19 := Same.trans s18 s9
    try dsimp (config := { proj := false }) only [gName, List.set_cons_succ, List.set_cons_zero]
    refine ⟨_, rfl, _, rfl, D8, rfl, ⟨_, SqL.of hl9⟩, fun D9 hD9 => ?_⟩
    refine lcN (K := K) (xs := (List.range n).map fun k : Nat => V.int ((q ^ k : Nat) : Int)) (R := fun i z H => ∃ e, z = .ref e ∧ e ≠ D9 ∧ H e = some (.lst ((tbW q (imM q (tabM q M st n) n) (imM q (tabM q N su n) n) (q ^ i) (q ^ i) 0 f (List.replicate (q ^ i) 0)).map V.int))) (sj_L (K := K) fun H6 s6 => SqL.of (s6 _ _ hl9)) hD9 (by rw [List.length_map, List.length_range]; exact small1000 (by omega))
      (fun i y H H' e ⟨e1, z1, z2, z3⟩ => ⟨e1, z1, z2, e _ _ z3⟩) (fun i y H zs ⟨e1, z1, z2, z3⟩ => ⟨e1, z1, z2, by rw [upd_ne z2]; exact z3⟩) ?_ ?_ gm_name
    · intro j z H10 Qk hz s10 hys kk
      obtain ⟨yy, hyy⟩ := hys
      rw [List.getElem?_map] at hz
      obtain ⟨j2, e1, e2⟩ := Option.map_eq_some_iff.mp hz
      have hj := (List.getElem?_eq_some_iff.mp e1).1
      rw [List.length_range] at hj
      rw [List.getElem?_range hj] at e1
      obtain rfl := Option.some.inj e1
      subst e2
      have s610 := Same.trans s69 s10
      refine ⟨rfl, ?_⟩
      refine ⟨_, rfl, _, rfl, _, rfl, _, rfl, _, rfl, r3, r5, q, q ^ n, f, q ^ j, imM q (tabM q M st n) n, imM q (tabM q N su n) n, rfl, hP, s610 _ _ hr3, s610 _ _ hr5, fun i hi => imM_lt hq _ n i hi, fun i hi => imM_lt hq _ n i hi, hfn, Nat.pow_pos hq, Nat.le_trans (h500 j hj) (by decide), fun H11 r s11 hr0 hr1 => ?_⟩
      exact kk (.ref r) H11 s11 ⟨r, rfl, (ne_of_none hyy hr0).symm, hr1⟩
    · intro ys H10 s10 hD10 hyl hRR
      rw [List.length_map, List.length_range] at hyl
      have s1a := Same.trans s19 s10
      intro y9 dy9 ny9 ndy9 ney9
      have su9 : Same H10 (upd (upd H10 dy9 (.own y9)) y9 (.ins CR dy9 [])) := fun c o e => by
        rw [upd_ne (ne_of_none e ny9), upd_ne (ne_of_none e ndy9)]; exact e
      have hRows : RowsL (upd (upd H10 dy9 (.own y9)) y9 (.ins CR dy9 [])) ys (relT q M st N su n f) := ⟨by rw [hyl, relT_len], fun i v r h1 h2 => by
        have hi : i < n := by rw [← hyl]; exact (List.getElem?_eq_some_iff.mp h1).1
        rw [relT_row hi] at h2
        obtain rfl := Option.some.inj h2
        obtain ⟨e, z1, _, z3⟩ := hRR i v h1
        exact ⟨e, z1, .inl (su9 _ _ z3)⟩⟩
      refine ⟨y9, dy9, q, D9, ys, relT q M st N su n f, rfl, upd_same, .inl (su9 _ _ hD10), hRows, relT_ok hS hn h500 (Nat.le_trans h900 (by decide)), fun Hv tv zv hkv htv hRTv hyv => ⟨rfl, ?_⟩⟩
      exact kk0 Hv y9 f (fun c o e => hkv c o (ne_of_none (s1a _ _ e) ny9) (su9 _ _ (s1a _ _ e))) (s1a.free ny9) hf ⟨dy9, tv, zv, hyv, htv, hRTv⟩
end

theorem dig_ex {q : Nat} (hq : 0 < q) : ∀ (n j : Nat), j < q ^ n → ∃ ds : List Int, Figs (q : Int) ds ∧ ds.length = n ∧ valD (q : Int) ds = (j : Int)
  | 0, j, h => ⟨[], fun d hd => (by cases hd), rfl, by
    have : j = 0 := by rw [Nat.pow_zero] at h; omega
    subst this; rfl⟩
  | n + 1, j, h => by
    have h2 : j / q < q ^ n := Nat.div_lt_of_lt_mul (by rw [Nat.mul_comm, ← Nat.pow_succ]; exact h)
    obtain ⟨ds, h3, h4, h5⟩ := dig_ex hq n (j / q) h2
    refine ⟨((j % q : Nat) : Int) :: ds, fun d hd => ?_, by rw [List.length_cons, h4], ?_⟩
    · rcases List.mem_cons.mp hd with e | e
      · rw [e]
        have := Nat.mod_lt j hq
        omega
      · exact h3 d e
    · show valD (q : Int) ds * (q : Int) + ((j % q : Nat) : Int) = _
      rw [h5, ← Int.natCast_mul, ← Int.natCast_add, Nat.div_add_mod' j q]
theorem onto_of {f : Nat → Nat} {N j : Nat} (h : InjN f N) (hj : j < N) : ∃ i, i < N ∧ f i = j := by
  obtain ⟨L, o, _⟩ := orb_ex h hj
  have hp := o.pos
  refine ⟨itF f (L - 1) j, itF_lt h hj _, ?_⟩
  have e : itF f (L - 1 + 1) j = j := by rw [show L - 1 + 1 = L by omega]; exact o.back
  exact e
/-- what is made leads, and its inverse leads back -/
theorem imM_full {q n j : Nat} {T : List (List Int)} (hq : 0 < q) (hT : T.length = n) (hj : j < q ^ n) : ∃ ds : List Int, Figs (q : Int) ds ∧ ds.length = n ∧ (valD (q : Int) ds).toNat = j := by
  obtain ⟨ds, h1, h2, h3⟩ := dig_ex hq n j hj
  exact ⟨ds, h1, h2, by rw [h3, Int.toNat_natCast]⟩
theorem ld_rel {q n f : Nat} {M N : Mach} {st su : Int} (h : TwoS q M st N su n) (hf : f < q ^ n) : ldB q n (relT q M st N su n f) (tabM q M st n) (tabM q N su n) = true := by
  have hq : 0 < q := by have := h.one.pr.two; omega
  unfold ldB
  rw [List.all_eq_true]
  intro j hj
  have hj := List.mem_range.mp hj
  obtain ⟨ds, h1, h2, h3⟩ := imM_full (T := relT q M st N su n f) hq (relT_len _ _ _ _ _ _ _) hj
  have w := rel_ways h hf h1 h2
  have nl := nam_len (p := (q : Int)) (T := relT q M st N su n f) (ds := ds) (by rw [h2, relT_len])
  have fN := nam_figs (p := (q : Int)) (T := relT q M st N su n f) (ds := ds) (by omega)
  rw [beh_nam (M := M) (st := st) h1 h2, beh_nam (M := N) (st := su) fN (by rw [nl, h2])] at w
  have e := (ways_num hq (relT_len q M st N su n f) (tabM_len q M st n) (tabM_len q N su n) h1 h2).mp w
  rw [h3] at e
  exact decide_eq_true e
theorem ld_inv {q n : Nat} (hq : 0 < q) {T U A B : List (List Int)} (hU : UndM q n T U) (h : ldB q n T A B = true) : ldB q n U B A = true := by
  unfold ldB at h ⊢
  rw [List.all_eq_true] at h ⊢
  intro j hj
  have hj := List.mem_range.mp hj
  obtain ⟨i, hi, e⟩ := onto_of (im_injN hq T n) hj
  have a := of_decide_eq_true (h i (List.mem_range.mpr hi))
  apply decide_eq_true
  rw [← e, ← a, und_im hq hU n _ (Nat.le_refl n) (imM_lt hq A n i hi), und_im hq hU n _ (Nat.le_refl n) hi]
/-- the figures at the settings of zeros -/
theorem rel_zeros {q n f : Nat} {M N : Mach} {st su : Int} (h : TwoS q M st N su n) {cs : List Int} (hF : Figs (q : Int) cs) (hf : valD (q : Int) (cs.take n) = ((f : Nat) : Int)) : ((List.range n).map fun k => ttM (relT q M st N su n f) k 0) = (cs ++ List.replicate n 0).take n := by
  refine List.ext_getElem (by rw [List.length_map, List.length_range, List.length_take, List.length_append, List.length_replicate]; omega) fun k h1 h2 => ?_
  rw [List.length_map, List.length_range] at h1
  rw [List.getElem_map, List.getElem_range, rel_first h (figs_takeR hF n) (by rw [List.length_take]; omega) hf h1, List.getElem_take, List.getD_eq_getElem?_getD, List.getElem?_take_of_lt h1]
  by_cases c : k < cs.length
  · rw [List.getElem?_eq_getElem c, List.getElem_append_left c]; rfl
  · rw [List.getElem?_eq_none (by omega), List.getElem_append_right (by omega), List.getElem_replicate]; rfl

/-! led odometers have equal totals -/
def spSgE : Sp := fun vs H Q _ => ∃ (b l : Addr) (p : Int), vs = [.ref b, .int p] ∧ Bag H b l ∧ IsP p ∧ ∀ H' y M st, Stp b l H H' → MAt H' y p M st → OkT p M st → (∀ n, totN p M st n = 1) → Q (.ref y) H'
theorem led_totE {p : Int} {M : Mach} {st : Int} {J J2 : Nat} (oG : OkT p M st) (D5 : Done p (undM p M) (odoM p) (st, 0) J) (o5 : OkT p (outJ p (undM p M) (odoM p) (st, 0) J) 0) (D6 : Done p (outJ p (undM p M) (odoM p) (st, 0) J) M (0, st) J2) (n : Nat) : totN p (outJ p (outJ p (undM p M) (odoM p) (st, 0) J) M (0, st) J2) 0 n = 1 := by
  have hP := oG.pr
  rw [tot_join o5.z oG.z D6, tot_join oG.und0.z (odo_ok hP).z D5, tot_und oG.z, tot_odo hP]
  generalize totN p M st n = X
  rcases hP with rfl | rfl | rfl | rfl <;> omega
section
variable {P : Program} {w : World} {K : PySem.W.Frag} {mg : Str → Option Value} {base : Heap} {aP : Addr} {tD : Tok} {C : Addr} {mc u : Value}
theorem ok_sgE {f : Addr} {fd : FuncData} (F : Fun K "_law_single" "_law_single" sSg f fd) (D1 : Df P w K mg base 1 "_law_odometer" ["_law_p"] spOd) (D2 : Df P w K mg base 1 "_law_pull" ["_law_bag_here", "_law_many"] spPull) (D3 : Df P w K mg base 3 "_law_plain" ["_law_bag_here", "_law_p", "_law_top"] spPlain)
    (D4 : Df P w K mg base 1 "_law_joined" ["_law_m", "_law_n"] spJoin) (D5 : Df P w K mg base 1 "_law_undone" ["_law_m"] spLUnd) : FnOk P w K mg base CX0 4 f fd ["_law_bag_here", "_law_p"] spSgE := by
  refine F.ok scSg (fun vs H Q E h => ?_) (fun cdv A outer s H vs Q E hr h => ?_)
  · obtain ⟨b, l, p, rfl, _⟩ := h
    rfl
  · obtain ⟨b, l, p, rfl, hB, hP, k⟩ := h
    have p2 := hP.two
    refine' ex_mk ?d ?_
    case d =>
      have nm := nm_of (CX := CX0) (P := P) (w := w) (K := K) (mg := mg) (base := base) (outer := outer) (H := H) (E := E) nmSg hr
      walk_at "pss"
    refine ⟨_, rfl, p, rfl, hP, fun H1 y s1 hA1 => ?_⟩
    have st1 : Stp b l H H1 := stp_same hB s1
    refine ⟨_, rfl, b, l, 4, rfl, st1.2, by decide, by decide, fun H2 d st2 d0 d1 => ?_⟩
    have hA2 := hA1.keep st1.2 st2.1
    refine ⟨_, _, rfl, rfl, _, rfl, ?_⟩
    by_cases c : d > 0
    · refine Eq.mpr (if_pos (decide_eq_true c)) ?_
      refine ⟨_, rfl, _, rfl, b, l, p, 2, rfl, st2.2, hP, by decide, by decide, fun H3 g r xs M st st3 hg0 hr0 hg hr3 hM hO m0 m1 z0 z1 => ?_⟩
      have hG3 : MAt H3 g p M st := ⟨r, xs, hg, hr3, hM⟩
      have oG : OkT p M st := ⟨hP, hO, z0, z1, by omega⟩
      refine ⟨_, rfl, g, p, M, st, rfl, hG3, oG, fun H4 y4 s4 hA4 => ?_⟩
      have ml : (undM p M).length = M.length := undM_len
      refine ⟨_, rfl, y4, y, p, undM p M, odoM p, st, 0, rfl, hA4, oG.und0, ((hA2.keep st2.2 st3.1).same s4), odo_ok hP, by rw [ml]; show M.length * 2 ≤ 200; omega, fun H5 y5 J s5 D5 hA5 => ?_⟩
      have j1 := oG.und0.join (odo_ok hP) (by rw [ml]; show M.length * 2 ≤ 200; omega) D5
      have j2 : (outJ p (undM p M) (odoM p) (st, 0) J).length ≤ M.length * 2 := by rw [← ml]; exact j1.2
      have hz : (outJ p (undM p M) (odoM p) (st, 0) J).length * M.length ≤ 200 := Nat.le_trans (Nat.mul_le_mul j2 (Nat.le_refl _)) (by
        have : M.length ≤ 2 := by omega
        exact Nat.le_trans (Nat.mul_le_mul (Nat.mul_le_mul this (Nat.le_refl 2)) this) (by decide))
      refine ⟨_, rfl, y5, g, p, _, M, 0, st, rfl, hA5, j1.1, hG3.same (Same.trans s4 s5), oG, hz, fun H6 y6 J2 s6 D6 hA6 => ?_⟩
      have j3 := j1.1.join oG hz D6
      refine ⟨_, rfl, k H6 y6 _ _ (((st1.trans st2).trans st3).same (Same.trans s4 (Same.trans s5 s6))) hA6 j3.1 (led_totE oG D5 j1.1 D6)⟩
    · refine Eq.mpr (if_neg (by simpa using c)) ?_
      exact ⟨_, rfl, k H2 y _ _ (st1.trans st2) hA2 (odo_ok hP) fun n => tot_odo hP n⟩
end

abbrev sLaw : Stmt := top 87
def spLaw (K : PySem.W.Frag) : Sp := fun vs H Q _ => ∃ (a : Addr) (ns : List Int), vs = [.ref a] ∧ SqL K H a (ns.map V.int) ∧ ns.length ≤ 63 ∧ ∀ H', Q (.bl true) H'
def nLaw : List Str := ["_law_script", "_law_bag_here", "_law_turn_z", "_law_p", "_law_many", "_law_m", "_law_n", "_law_picks", "_law_given", "_law_found", "_law_some", "_law_row", "_law_plain_z", "_law_k"]
/-- a def called with some of its arguments by keywords -/
structure DfN (P : Program) (w : World) (K : PySem.W.Frag) (mg : Str → Option Value) (base : Heap) (k : Nat) (x : Str) (ps : List Str) (n : Nat) (ks : List Str) (gV : List V → List V → List V) (sp : Sp) : Prop where
  ex : ∃ f fd, ∃ g : List Value → List Value → List Value, mg x = some (.ref f) ∧ PySem.W.keepIn K (.ref f) = true ∧ KBn K fd ps n ks g gV ∧ FnOk P w K mg base CX0 k f fd ps sp
theorem n_dN {P : Program} {w : World} {K : PySem.W.Frag} {mg : Str → Option Value} {base : Heap} {j k n : Nat} {X : Cx} {NS WS : List (Str × Nat)} {G : List Str} {x : Str} {ps ks : List Str} {gV : List V → List V → List V} {sp : Sp} {e : Expr} {es : List Expr} {t tk : TA} {p pos : Pos} {kws : List Keyword}
    (h : Nm P w K mg base j X NS WS G) (D : DfN P w K mg base k x ps n ks gV sp) (hk : k ≤ j) (hg : x ∈ G) (ha : PA X (e :: es) t) (hkw : PK X kws tk)
    (hall : (backToKw pos (keywordEach kws X.env)).all (·.1.isSome) = true := by rfl) (hks : (backToKw pos (keywordEach kws X.env)).filterMap (·.1) = ks := by rfl)
    (he : starEach (e :: es) X.env = (false, eval e X.env) :: starEach es X.env := by rfl)
    (hpl : ((backTo pos (starEach (e :: es) X.env)).any (·.1) || (backToKw pos (keywordEach kws X.env)).any (·.1.isNone)) = false := by rfl) :
    PE X (.Call (.Name x p) (e :: es) kws pos) (tCallN n ks.length sp gV E0 t tk) := by
  obtain ⟨h1, h2, h3, h4, h5, hr, _, _, _, _, hgl⟩ := h
  subst h1 h2 h3 h4 h5
  obtain ⟨f, fd, g, hm, hkp, hb, F⟩ := D.ex
  exact pe_callN F (hr.mono hk) (hgl x hg).1 hm hkp hb pass0 ha hkw hall hks (hgl x hg).2.1 he hpl
def gApp (us zs : List V) : List V := us ++ zs
/-- the figures chosen are left out -/
def gDef (aK : Addr) (us zs : List V) : List V := us ++ zs ++ [.ref aK]
theorem n_neO {P : Program} {w : World} {K : PySem.W.Frag} {mg : Str → Option Value} {base : Heap} {j n : Nat} {X : Cx} {NS WS : List (Str × Nat)} {G : List Str} {C : Addr} {ps : List Str} {sp : Sp} (h : Nm P w K mg base j X NS WS G) (W : Ow P w K mg base n C ps sp) (hk : n + 1 ≤ j) : OpR X (compareOp .NotEq) (rNeO C sp) := by
  obtain ⟨h1, h2, h3, h4, h5, hr, _, _, _, _, hgl⟩ := h
  subst h1 h2 h3 h4 h5
  exact op_neO W (hr.mono hk)
theorem no_tbs (p : Int) (t : Addr) : (rf p t).lookup ("tables" : Str) = none := rf_no p t (by decide +kernel) (by decide +kernel)
theorem no_leads (p : Int) (t : Addr) : (rf p t).lookup ("leads" : Str) = none := rf_no p t (by decide +kernel) (by decide +kernel)
theorem no_invR (p : Int) (t : Addr) : (rf p t).lookup ("inverse" : Str) = none := rf_no p t (by decide +kernel) (by decide +kernel)
theorem few_powN {q : Nat} (hP : IsP (q : Int)) {m : Nat} (hm : (m : Int) < fewM q) : ∀ i, i ≤ m → q ^ i ≤ 900 := fun i hi => by
  have h := pow_few (i := i) hP (by omega)
  rw [← Int.natCast_pow] at h
  omega
theorem ld_good {P : Program} {w : World} {K : PySem.W.Frag} {mg : Str → Option Value} {base : Heap} {C CT CPD : Addr} {f : Addr} {fd : FuncData} (F : FnOk P w K mg base (L2.CX P w) 13 f fd ["self", "one", "other"] (spLd K C CT CPD)) : FnOk P w K mg base CX0 13 f fd ["self", "one", "other"] (spLdG C CT) :=
  fn_from F fun vs H Q E ⟨x, y, z, q, T, M, N, st, sd, e, hT, hO, hY, hOy, hZ, hOz, k⟩ => ⟨x, y, z, q, (q : Int), (q : Int), T, M, N, st, sd, e, hT, hO, hY, hOy, hZ, hOz, .inl ⟨rfl, rfl, k⟩⟩
theorem rowsLi_same {H H' : Hp} {ys : List V} {T : List (List Int)} (h : RowsLi H ys T) (k : Same H H') : RowsLi H' ys T := ⟨h.1, fun i v r e1 e2 => by
  obtain ⟨a, rfl, e4⟩ := h.2 i v r e1 e2
  exact ⟨a, rfl, k _ _ e4⟩⟩
abbrev gLaw : List Str := ["_law_bag", "range", "_law_prime", "_law_pull", "_law_few", "_law_single", "list", "_law_figures", "relabel", "_law_made", "_law_same", "_law_all_rows", "_law_named", "_law_behind", "tuple"]
section
variable {P : Program} {w : World} {K : PySem.W.Frag} {mg : Str → Option Value} {base : Heap} {C CR aK : Addr}
theorem scLaw : FnScope nLaw ["_law_script"] (defScope sLaw) := ⟨rfl, rfl, rfl, by decide +kernel, rfl, by decide +kernel, by decide +kernel⟩
theorem nmLaw : nmB nLaw [("_law_script", 0), ("_law_bag_here", 1), ("_law_turn_z", 2), ("_law_p", 3), ("_law_many", 4), ("_law_m", 5), ("_law_n", 6), ("_law_picks", 7), ("_law_given", 8), ("_law_found", 9), ("_law_some", 10), ("_law_row", 11), ("_law_plain_z", 12)] gLaw (defScope sLaw) = true := by decide +kernel
set_option maxHeartbeats 0
/-- what the law's text reads -/
def rdLaw {f : Addr} {cdv : Value} {A : Around} {outer : List Env} {s : Shared} {H : Hp} {E : XK}
    (nm : Nm P w K mg base 23 (cxOf CX0 P w K mg base nLaw "law" (defScope sLaw) f cdv A outer s H E).nox [("_law_script", 0), ("_law_bag_here", 1), ("_law_turn_z", 2), ("_law_p", 3), ("_law_many", 4), ("_law_m", 5), ("_law_n", 6), ("_law_picks", 7), ("_law_given", 8), ("_law_found", 9), ("_law_some", 10), ("_law_row", 11), ("_law_plain_z", 12)] [("_law_script", 0), ("_law_bag_here", 1), ("_law_turn_z", 2), ("_law_p", 3), ("_law_many", 4), ("_law_m", 5), ("_law_n", 6), ("_law_picks", 7), ("_law_given", 8), ("_law_found", 9), ("_law_some", 10), ("_law_row", 11), ("_law_plain_z", 12)] gLaw)
    (b1 : mg "len" = none) (b4 : mg "list" = none) (b5 : mg "tuple" = none) (b6 : mg "range" = none) (hclR : Cls K CR)
    (D1 : Df P w K mg base 1 "_law_bag" ["_law_script"] (spBag K)) (D2 : Df P w K mg base 3 "_law_prime" ["_law_bag_here"] spPrime) (D7 : Df P w K mg base 1 "_law_pull" ["_law_bag_here", "_law_many"] spPull) (D5 : Df P w K mg base 1 "_law_few" ["_law_p"] spFew)
    (DS : Df P w K mg base 4 "_law_single" ["_law_bag_here", "_law_p"] spSgE) (DF : Df P w K mg base 2 "_law_figures" ["_law_bag_here", "_law_p", "_law_many"] spFigs) (DM : Df P w K mg base 7 "_law_made" ["_law_m"] (spMade C))
    (GL : DfN P w K mg base 13 "relabel" ["one", "other", "dials", "chosen"] 3 ["chosen"] gApp (spRlX K C CR chL)) (GT : DfN P w K mg base 13 "relabel" ["one", "other", "dials", "chosen"] 3 ["chosen"] gApp (spRlX K C CR (chT K))) (GD : DfN P w K mg base 13 "relabel" ["one", "other", "dials", "chosen"] 1 ["other", "dials"] (gDef aK) (spRlX K C CR (chT K)))
    (ETb : Mf P w K mg base 1 CR "tables" ["self"] (spRTb CR)) (EP : Pf P w K mg base 1 CR "prime" ["self"] (getSp CR "_prime")) (EDi : Pf P w K mg base 1 CR "dials" ["self"] (spRDi CR)) (D8 : Df P w K mg base 5 "_law_same" ["_law_found", "_law_due"] (spS K 5)) (DT : Df P w K mg base 1 "_law_times" ["_law_p", "_law_many"] spLT)
    (D9 : Df P w K mg base 1 "_law_all_rows" ["_law_p", "_law_many"] spAllN) (D6 : Df P w K mg base 2 "_law_named" ["_law_p", "_law_some", "_law_row"] spLNm) (DH : Df P w K mg base 2 "_law_behind" ["_law_m", "_law_row"] spBeh)
    (EL : Mf P w K mg base 13 CR "leads" ["self", "one", "other"] (spLdG CR C)) (EI : Mf P w K mg base 7 CR "inverse" ["self"] (spRInv CR)) (W : Ow P w K mg base 1 CR ["self", "other"] (spREq K CR)) : {tb : TS // PSs (cxOf CX0 P w K mg base nLaw "law" (defScope sLaw) f cdv A outer s H E).nox (defBody sLaw) tb} := by
  refine ⟨?tb, ?d⟩
  case d =>
    have hu := nm.room.units
    have hun := nm.room.un
    refine' pss_cons ?s1 (pss_cons (n_for nm PassesOwn.never ?fi ?fg ?body) (pss_one ?s3))
    case s1 => walk_at "ps"
    case fi => walk_at "pi"
    case fg => walk_at "pg"
    case s3 => walk_at "ps"
    case body =>
      refine' pss_cons ?c1 (pss_cons ?c2 (pss_cons ?c3 (pss_cons ?c4 (pss_cons ?c5 (pss_cons ?c6 (pss_cons ?c7 (pss_cons ?c8 (pss_cons ?c9 (pss_cons (n_for nm PassesOwn.never (pi_list ?fi2) ?fg2 (pss_one ?ca)) (pss_cons ?cb (pss_cons ?cc (pss_one ?cd))))))))))))
      case c1 => walk_at "ps"
      case c2 => walk_at "ps"
      case c3 =>
        refine' ps_par (i := 5) (j := 6) rfl nm.nd rfl rfl (by decide) rfl rfl (pa_cons ?e1 (pa_cons ?e2 pa_nil)) (by rfl)
        case e1 => walk_at "pe"
        case e2 => walk_at "pe"
      case c4 => walk_at "ps"
      case c5 => walk_at "ps"
      case c6 =>
        refine' ps_asg (n_dN nm GL (by decide) ?g1 (pa_cons (n_d nm DM (by decide) ?g2 (pa_cons ?a1 pa_nil)) (pa_cons (n_d nm DM (by decide) ?g3 (pa_cons ?a2 pa_nil)) (pa_cons ?a3 pa_nil))) (pk_cons ?a4 pk_nil)) ?gg
        case g1 => walk_at "mem"
        case g2 => walk_at "mem"
        case a1 => walk_at "pe"
        case g3 => walk_at "mem"
        case a2 => walk_at "pe"
        case a3 => walk_at "pe"
        case a4 => walk_at "pe"
        case gg => walk_at "pg"
      case c7 =>
        refine' ps_asg (n_m0 nm hclR ETb (by decide) ?a1) ?gg
        case a1 => walk_at "pe"
        case gg => walk_at "pg"
      case c8 =>
        refine' ps_if (PW.pt (pw_or (pt_cmpR (op_neD hu) ?a1 ?a2 (nomark _)) (pw_or1 (pt_not (pt_val (n_d nm D8 (by decide) ?g1 (pa_cons (pe_lst (pa_cons (n_p nm hclR EP (by decide) ?o1) (pa_cons (n_p nm hclR EDi (by decide) ?o2) (pa_cons ?lc1 pa_nil)))) (pa_cons (pe_lst (pa_cons ?o3 (pa_cons ?o4 (pa_cons ?lc2 pa_nil)))) pa_nil)))))))) ?z7 pss_nil
        case a1 => walk_at "pe"
        case a2 => walk_at "pe"
        case g1 => walk_at "mem"
        case o1 => walk_at "pe"
        case o2 => walk_at "pe"
        case lc1 =>
          refine' n_lc (own := [("_law_row", 11)]) (g := gName 11) (NS' := [("_law_row", 11)]) (WS' := [("_law_row", 11)]) (G' := ["len"]) (N := nLaw) (scD := defScope sLaw) nm rfl rfl (by decide +kernel) (by decide +kernel) (n_piL nm ?li) (fun X' nm2 => ?lg) (fun X' nm2 => n_len nm2 b1 ?e1 (pa_cons ?e2 pa_nil))
          case li => walk_at "pe"
          case lg => walk_at "pg"
          case e1 => walk_at "mem"
          case e2 => walk_at "pe"
        case o3 => walk_at "pe"
        case o4 => walk_at "pe"
        case lc2 =>
          refine' n_lc (own := [("_law_k", 13)]) (g := gName 13) (NS' := [("_law_p", 3), ("_law_k", 13)]) (WS' := [("_law_k", 13)]) (G' := ["_law_times"]) (N := nLaw) (scD := defScope sLaw) nm rfl rfl (by decide +kernel) (by decide +kernel) (n_rng nm b6 ?rg (pa_cons ?ra pa_nil)) (fun X' nm2 => ?lg) (fun X' nm2 => n_d nm2 DT (by decide) ?e0 (pa_cons ?e1 (pa_cons ?e2 pa_nil)))
          case rg => walk_at "mem"
          case ra => walk_at "pe"
          case lg => walk_at "pg"
          case e0 => walk_at "mem"
          case e1 => walk_at "pe"
          case e2 => walk_at "pe"
        case z7 => walk_at "pss"
      case c9 =>
        refine' ps_if (pt_cmpR (op_neD hu) ?lc1 (pe_slice sl_list (pe_op op_cat ?a1 (pe_op op_rep (pe_lst (pa_cons pe_int pa_nil)) ?a2)) po_none (po_some ?a3)) (nomark _)) ?z7 pss_nil
        case lc1 =>
          refine' n_lc (own := [("_law_row", 11)]) (g := gName 11) (NS' := [("_law_row", 11)]) (WS' := [("_law_row", 11)]) (G' := []) (N := nLaw) (scD := defScope sLaw) nm rfl rfl (by decide +kernel) (by decide +kernel) (n_piL nm ?li) (fun X' nm2 => ?lg) (fun X' nm2 => n_ixL nm2 ?e1 pe_int (fun _ _ => rfl))
          case li => walk_at "pe"
          case lg => walk_at "pg"
          case e1 => walk_at "pe"
        case a1 => walk_at "pe"
        case a2 => walk_at "pe"
        case a3 => walk_at "pe"
        case z7 => walk_at "pss"
      case fi2 => walk_at "pe"
      case fg2 => walk_at "pg"
      case ca =>
        refine' ps_if (pt_cmpR (op_neD hu) (n_d nm D6 (by decide) ?e0 (pa_cons ?e1 (pa_cons ?e2 (pa_cons (n_d nm DH (by decide) ?e3 (pa_cons ?e4 (pa_cons ?e5 pa_nil))) pa_nil)))) (n_d nm DH (by decide) ?e6 (pa_cons ?e7 (pa_cons (n_d nm D6 (by decide) ?e8 (pa_cons ?e9 (pa_cons ?ea (pa_cons ?eb pa_nil)))) pa_nil))) (nomark _)) ?z7 pss_nil
        case e0 => walk_at "mem"
        case e1 => walk_at "pe"
        case e2 => walk_at "pe"
        case e3 => walk_at "mem"
        case e4 => walk_at "pe"
        case e5 => walk_at "pe"
        case e6 => walk_at "mem"
        case e7 => walk_at "pe"
        case e8 => walk_at "mem"
        case e9 => walk_at "pe"
        case ea => walk_at "pe"
        case eb => walk_at "pe"
        case z7 => walk_at "pss"
      case cb =>
        refine' ps_if (PW.pt (pw_or (pt_not (pt_val (n_m nm hclR EL (by decide) ?o1 (pa_cons (n_d nm DM (by decide) ?g2 (pa_cons ?a1 pa_nil)) (pa_cons (n_d nm DM (by decide) ?g3 (pa_cons ?a2 pa_nil)) pa_nil))))) (pw_or1 (pt_not (pt_val (n_m nm hclR EL (by decide) (n_m0 nm hclR EI (by decide) ?o2) (pa_cons (n_d nm DM (by decide) ?g4 (pa_cons ?a3 pa_nil)) (pa_cons (n_d nm DM (by decide) ?g5 (pa_cons ?a4 pa_nil)) pa_nil)))))))) ?z7 pss_nil
        case o1 => walk_at "pe"
        case g2 => walk_at "mem"
        case a1 => walk_at "pe"
        case g3 => walk_at "mem"
        case a2 => walk_at "pe"
        case o2 => walk_at "pe"
        case g4 => walk_at "mem"
        case a3 => walk_at "pe"
        case g5 => walk_at "mem"
        case a4 => walk_at "pe"
        case z7 => walk_at "pss"
      case cc =>
        refine' ps_asg (n_dN nm GD (by decide) ?g1 (pa_cons (n_d nm DM (by decide) ?g2 (pa_cons ?a1 pa_nil)) pa_nil) (pk_cons (n_d nm DM (by decide) ?g3 (pa_cons ?a2 pa_nil)) (pk_cons ?a4 pk_nil))) ?gg
        case g1 => walk_at "mem"
        case g2 => walk_at "mem"
        case a1 => walk_at "pe"
        case g3 => walk_at "mem"
        case a2 => walk_at "pe"
        case a4 => walk_at "pe"
        case gg => walk_at "pg"
      case cd =>
        refine' ps_if (PW.pt (pw_or (pt_cmpR (op_neD hu) ?lc1 (pe_op op_rep (pe_lst (pa_cons pe_int pa_nil)) ?a5) (nomark _)) (pw_or1 (pt_cmpR (n_neO nm W (by decide)) (n_dN nm GT (by decide) ?g1 (pa_cons (n_d nm DM (by decide) ?g2 (pa_cons ?a1 pa_nil)) (pa_cons (n_d nm DM (by decide) ?g3 (pa_cons ?a2 pa_nil)) (pa_cons ?a3 pa_nil))) (pk_cons (n_t (x := "tuple") nm b5 call_tuple_of PyProof.Rows.boot_tuple ?g4 (pa_cons ?a4 pa_nil)) pk_nil)) ?a6 (nomark _))))) ?z7 pss_nil
        case lc1 =>
          refine' n_lc (own := [("_law_row", 11)]) (g := gName 11) (NS' := [("_law_row", 11)]) (WS' := [("_law_row", 11)]) (G' := []) (N := nLaw) (scD := defScope sLaw) nm rfl rfl (by decide +kernel) (by decide +kernel) (n_piL nm (n_m0 nm hclR ETb (by decide) ?li)) (fun X' nm2 => ?lg) (fun X' nm2 => n_ixL nm2 ?e1 pe_int (fun _ _ => rfl))
          case li => walk_at "pe"
          case lg => walk_at "pg"
          case e1 => walk_at "pe"
        case a5 => walk_at "pe"
        case g1 => walk_at "mem"
        case g2 => walk_at "mem"
        case a1 => walk_at "pe"
        case g3 => walk_at "mem"
        case a2 => walk_at "pe"
        case a3 => walk_at "pe"
        case g4 => walk_at "mem"
        case a4 => walk_at "pe"
        case a6 => walk_at "pe"
        case z7 => walk_at "pss"
end

theorem sub_valX {α : Type} {p : α → Prop} (a : α) (h : p a) : (Subtype.mk a h).val = a := rfl
section
variable {P : Program} {w : World} {K : PySem.W.Frag} {mg : Str → Option Value} {base : Heap} {C CR aK : Addr}
set_option maxHeartbeats 0 in
theorem ok_law {f : Addr} {fd : FuncData} (F : Fun K "law" "law" sLaw f fd) (b1 : mg "len" = none) (b4 : mg "list" = none) (b5 : mg "tuple" = none) (b6 : mg "range" = none) (hclR : Cls K CR)
    (D1 : Df P w K mg base 1 "_law_bag" ["_law_script"] (spBag K)) (D2 : Df P w K mg base 3 "_law_prime" ["_law_bag_here"] spPrime) (D7 : Df P w K mg base 1 "_law_pull" ["_law_bag_here", "_law_many"] spPull) (D5 : Df P w K mg base 1 "_law_few" ["_law_p"] spFew)
    (DS : Df P w K mg base 4 "_law_single" ["_law_bag_here", "_law_p"] spSgE) (DF : Df P w K mg base 2 "_law_figures" ["_law_bag_here", "_law_p", "_law_many"] spFigs) (DM : Df P w K mg base 7 "_law_made" ["_law_m"] (spMade C))
    (GL : DfN P w K mg base 13 "relabel" ["one", "other", "dials", "chosen"] 3 ["chosen"] gApp (spRlX K C CR chL)) (GT : DfN P w K mg base 13 "relabel" ["one", "other", "dials", "chosen"] 3 ["chosen"] gApp (spRlX K C CR (chT K))) (GD : DfN P w K mg base 13 "relabel" ["one", "other", "dials", "chosen"] 1 ["other", "dials"] (gDef aK) (spRlX K C CR (chT K)))
    (ETb : Mf P w K mg base 1 CR "tables" ["self"] (spRTb CR)) (EP : Pf P w K mg base 1 CR "prime" ["self"] (getSp CR "_prime")) (EDi : Pf P w K mg base 1 CR "dials" ["self"] (spRDi CR)) (D8 : Df P w K mg base 5 "_law_same" ["_law_found", "_law_due"] (spS K 5)) (DT : Df P w K mg base 1 "_law_times" ["_law_p", "_law_many"] spLT)
    (D9 : Df P w K mg base 1 "_law_all_rows" ["_law_p", "_law_many"] spAllN) (D6 : Df P w K mg base 2 "_law_named" ["_law_p", "_law_some", "_law_row"] spLNm) (DH : Df P w K mg base 2 "_law_behind" ["_law_m", "_law_row"] spBeh)
    (EL : Mf P w K mg base 13 CR "leads" ["self", "one", "other"] (spLdG CR C)) (EI : Mf P w K mg base 7 CR "inverse" ["self"] (spRInv CR)) (W : Ow P w K mg base 1 CR ["self", "other"] (spREq K CR)) (hAK : ∀ H, SqT K H aK []) : FnOk P w K mg base CX0 24 f fd ["_law_script"] (spLaw K) := by
  refine F.ok scLaw (fun vs H Q E h => ?_) (fun cdv A outer s H vs Q E hr h => ?_)
  · obtain ⟨a, ns, rfl, _⟩ := h
    rfl
  · obtain ⟨a0, ns, rfl, hSc, h63, k⟩ := h
    have nm := nm_of (CX := CX0) (P := P) (w := w) (K := K) (mg := mg) (base := base) (outer := outer) (H := H) (E := E) nmLaw hr
    refine ex_mk (PSs.nox (rdLaw nm b1 b4 b5 b6 hclR D1 D2 D7 D5 DS DF DM GL GT GD ETb EP EDi D8 DT D9 D6 DH EL EI W).2) ?_
    delta rdLaw
    rw [sub_valX]
    rotate_left
    · exact (rdLaw nm b1 b4 b5 b6 hclR D1 D2 D7 D5 DS DF DM GL GT GD ETb EP EDi D8 DT D9 D6 DH EL EI W).2
    refine ⟨_, rfl, a0, ns, rfl, hSc, fun H0 b l s0 hb0 hB0 => ?_⟩
    refine ⟨3, rfl, by decide, by decide, for_range (lo := 0) (n := 3) (fun i σ H' => ∃ v2 v3 v4 v5 v6 v7 v8 v9 va vb vc vd, σ = [some (.ref a0), some (.ref b), v2, v3, v4, v5, v6, v7, v8, v9, va, vb, vc, vd] ∧ Bag H' b l)
      ⟨none, none, none, none, none, none, none, none, none, none, none, none, rfl, hB0⟩ ?_ ?_⟩
    · rintro i σ H' hi ⟨v2, v3, v4, v5, v6, v7, v8, v9, va, vb, vc, vd, rfl, hB⟩
      try dsimp (config := { proj := false }) only [gName, List.set_cons_succ, List.set_cons_zero]
      refine ⟨_, rfl, b, l, rfl, hB, fun H1 p st1 hP => ?_⟩
      have hp2 := hP.two
      have hfw := few_le hP
      obtain ⟨q, rfl⟩ : ∃ q : Nat, p = (q : Int) := ⟨p.toNat, by omega⟩
      have hq : 0 < q := by omega
      -- many
      refine ⟨_, rfl, _, rfl, _, rfl, hP, fun H1' s1' => ?_⟩
      refine ⟨b, l, _, rfl, st1.2.same s1', hfw.1, by omega, fun H2 mz st2 mz0 mz1 => ?_⟩
      obtain ⟨n, rfl⟩ : ∃ n : Nat, mz = (n : Int) := ⟨mz.toNat, by omega⟩
      have hn : n ≤ 8 := by omega
      have h900 : q ^ n ≤ 900 := few_powN hP (m := n) (by omega) n (Nat.le_refl n)
      have h500 : ∀ k, k < n → q ^ k ≤ 500 := fun k hk => by
        have h := pow_few (i := k) hP (by omega)
        rw [← Int.natCast_pow] at h
        omega
      have hsl : (20000 : Nat) < sizeLine := by rw [sizeLine_eq]; decide
      have B2 := st2.2
      try dsimp (config := { proj := false }) only [gName, List.set_cons_succ, List.set_cons_zero]
      -- m, n
      refine ⟨_, rfl, _, rfl, b, l, _, rfl, B2, hP, fun H3 t1 M st st3 A3 hOM hM1 => ?_⟩
      have B3 := st3.2
      refine ⟨_, rfl, _, rfl, b, l, _, rfl, B3, hP, fun H4 t2 N su st4 A4 hON hN1 => ?_⟩
      have B4 := st4.2
      have A34 := A3.keep B3 st4.1
      have hTS : TwoS q M st N su n := ⟨hOM, hON, fun k _ => by rw [hM1]; decide, fun k _ => by rw [hN1]; decide, fun k _ => by rw [hM1, hN1]⟩
      refine ⟨_, _, rfl, ?_⟩
      try dsimp (config := { proj := false }) only [gName, List.set_cons_succ, List.set_cons_zero]
      -- picks
      refine ⟨_, rfl, _, rfl, _, rfl, _, rfl, _, _, rfl, rfl, b, l, _, rfl, B4, by omega, by omega, fun H5 kz st5 k0 k1 => ?_⟩
      refine ⟨b, l, _, _, rfl, st5.2, by omega, by omega, k0, by omega, fun H6 tf ds st6 ht0 ht hdl hdF => ?_⟩
      have B6 := st6.2
      have A36 := (A34.keep B4 st5.1).keep st5.2 st6.1
      have A46 := (A4.keep B4 st5.1).keep st5.2 st6.1
      have hFg : Figs (q : Int) ds := hdF
      refine ⟨tf, _, rfl, .inr (SqT.of ht), fun g hg => ?_⟩
      have s67 := same_new (o := .lst (ds.map V.int)) hg
      have eg : upd H6 g (.lst (ds.map V.int)) g = some (.lst (ds.map V.int)) := upd_same
      generalize upd H6 g (.lst (ds.map V.int)) = H7 at s67 eg ⊢
      try dsimp (config := { proj := false }) only [gName, List.set_cons_succ, List.set_cons_zero]
      -- given
      refine ⟨_, rfl, g, _, rfl, .inl (SqL.of eg), fun g2 hg2 => ?_⟩
      have s78 := same_new (o := .lst (ds.map V.int)) hg2
      have eg2 : upd H7 g2 (.lst (ds.map V.int)) g2 = some (.lst (ds.map V.int)) := upd_same
      generalize upd H7 g2 (.lst (ds.map V.int)) = H8 at s78 eg2 ⊢
      have s68 := Same.trans s67 s78
      have A8 := A36.same s68
      have A8' := A46.same s68
      have eg8 := s78 _ _ eg
      have B8 := B6.same s68
      try dsimp (config := { proj := false }) only [gName, List.set_cons_succ, List.set_cons_zero]
      -- found
      refine ⟨_, rfl, t1, _, M, st, rfl, A8, hOM, fun H9 x1 s9 hx10 X9 => ?_⟩
      refine ⟨_, rfl, t2, _, N, su, rfl, A8'.same s9, hON, fun Ha y1 sa hy10 Ya => ?_⟩
      refine ⟨_, rfl, _, rfl, rfl, rfl, x1, y1, g2, q, n, M, N, st, su, ds, rfl, X9.same sa, Ya, hTS, sa _ _ (s9 _ _ eg2), hFg, by omega, hn, h500, h900, fun Hb r f sb hr0 hf Rb => ?_⟩
      have hT := relT_ok (f := f) hTS hn h500 (Nat.le_trans h900 (by decide))
      have s8b := Same.trans s9 (Same.trans sa sb)
      have hfn : f < q ^ n := by
        obtain ⟨v, e, hv⟩ := valD_nat hq (ds := ds.take n) (figs_takeR hFg n)
        rw [hf] at e
        obtain rfl := Int.ofNat.inj e
        exact Nat.lt_of_lt_of_le hv (Nat.pow_le_pow_right hq (by rw [List.length_take]; omega))
      have hlen := relT_len q M st N su n f
      have hld := ld_rel hTS hfn
      have hze := rel_zeros hTS hFg hf
      have hrowA : ∀ f' k, k < n → ∃ rw', (relT q M st N su n f')[k]? = some rw' ∧ rw'.length = q ^ k ∧ rw'.getD 0 0 = ttM (relT q M st N su n f') k 0 := fun f' k hk => by
        refine ⟨_, relT_row hk, by rw [tbW_len, List.length_replicate], ?_⟩
        show _ = ((relT q M st N su n f').getD k []).getD 0 0
        congr 1
        rw [List.getD_eq_getElem?_getD, relT_row hk]; rfl
      have hrow := hrowA f
      have hways : ∀ cs : List Int, Figs (q : Int) cs → cs.length = n → namM q (relT q M st N su n f) (behM q M st cs) = behM q N su (namM q (relT q M st N su n f) cs) := fun cs h1 h2 => rel_ways hTS hfn h1 h2
      have hfz : ∀ f', valD (q : Int) (ds.take n) = ((f' : Nat) : Int) → relT q M st N su n f' = relT q M st N su n f := fun f' e => by
        rw [hf] at e
        rw [Int.ofNat.inj e]
      generalize relT q M st N su n f = T at Rb hT hlen hld hze hrow hways hfz
      obtain ⟨dxb, txb, xxb, hb1, hb2, hb3⟩ := id Rb
      have A9 := A8.same s8b
      have A9' := A8'.same s8b
      have eg9 := s8b _ _ eg8
      have eg29 := s8b _ _ eg2
      have B9 := B8.same s8b
      try dsimp (config := { proj := false }) only [gName, List.set_cons_succ, List.set_cons_zero]
      -- some
      refine ⟨_, rfl, r, dxb, _, rfl, hb1, no_tbs _ _, r, _, T, rfl, Rb, hT, fun Hc rt ys sc hrt0 hrt hRt hfr => ?_⟩
      try dsimp (config := { proj := false }) only [gName, List.set_cons_succ, List.set_cons_zero]
      -- given == picks, prime, dials, lengths
      refine ⟨_, rfl, _, rfl, ne_lst (sc _ _ eg29) (sc _ _ eg9) ⟨_, rfl, ?_⟩⟩
      refine iteF ?_
      have Rc' := Rb.same sc
      obtain ⟨dxc, txc, xxc, hc1, hc2, hc3⟩ := id Rc'
      have hyl : ys.length = n := by rw [hRt.1, hlen]
      refine ⟨_, rfl, r, dxc, _, rfl, hc1, r, dxc, _, _, rfl, hc1, rf_p _ _, ?_⟩
      refine ⟨_, rfl, r, dxc, _, rfl, hc1, r, _, T, rfl, Rc', ?_⟩
      rw [hlen]
      refine ⟨_, rfl, rt, rfl, ⟨_, SqL.of hrt⟩, fun D1' hD1 => ?_⟩
      refine lc_seq (fs := (List.range n).map fun k : Nat => V.int ((q ^ k : Nat) : Int)) (sj_L (K := K) fun H6 s6 => SqL.of (s6 _ _ hrt)) hD1 (by rw [List.length_map, List.length_range, hyl]) (small1000 (by omega)) ?_ ?_ gm_name
      · intro j v z Hx Qk hv hz sx k2
        have hj : j < n := by rw [← hyl]; exact (List.getElem?_eq_some_iff.mp hv).1
        obtain ⟨rw', e1, e2, _⟩ := hrow j hj
        obtain ⟨c, rfl, hc⟩ := hRt.2 j v rw' hv e1
        rw [List.getElem?_map, List.getElem?_range hj] at hz
        obtain rfl := (Option.some.inj hz).symm
        refine ⟨rfl, _, rfl, c, _, rfl, .inl (SqL.of (sx _ _ hc)), ?_⟩
        rw [List.length_map, e2]
        exact k2 _ (fun _ _ e => e)
      intro Hd sd hD1'
      refine ⟨by show 3 ≤ sizeLine; decide, fun w1 hw1 => ?_⟩
      have se := same_new (o := .lst [.int (q : Int), .int (n : Int), .ref D1']) hw1
      have ew1 : upd Hd w1 (.lst [.int (q : Int), .int (n : Int), .ref D1']) w1 = some (.lst [.int (q : Int), .int (n : Int), .ref D1']) := upd_same
      generalize upd Hd w1 (.lst [.int (q : Int), .int (n : Int), .ref D1']) = He at se ew1 ⊢
      refine ⟨_, rfl, _, rfl, _, rfl, _, rfl, by omega, by omega, fun D2' hD2 => ?_⟩
      rw [Int.toNat_natCast]
      refine lcR (n := n) (fs := (List.range n).map fun k : Nat => V.int ((q ^ k : Nat) : Int)) hD2 (by simp) (small1000 (by omega)) (fun j z H' Qk hz sz kk => ?_) ?_ (fun x => rfl)
      · rw [List.getElem?_map] at hz
        obtain ⟨j2, e1, e2⟩ := Option.map_eq_some_iff.mp hz
        have hj := (List.getElem?_eq_some_iff.mp e1).1
        rw [List.length_range] at hj
        rw [List.getElem?_range hj] at e1
        obtain rfl := Option.some.inj e1
        subst e2
        refine ⟨_, rfl, _, rfl, (q : Int), j, ?_, by omega, by omega, by omega, ?_⟩
        · rw [Int.zero_add]
        · rw [← Int.natCast_pow]
          exact kk H' fun _ _ e => e
      intro Hf sf hD2'
      refine ⟨by show 3 ≤ sizeLine; decide, fun w2 hw2 => ?_⟩
      have sg := same_new (o := .lst [.int (q : Int), .int (n : Int), .ref D2']) hw2
      have ez : Eqd K (upd Hf w2 (.lst [.int (q : Int), .int (n : Int), .ref D2'])) 3 (.ref D1') (.ref D2') := .lst (SqL.of (sg _ _ (sf _ _ (se _ _ hD1')))) (SqL.of (sg _ _ hD2')) rfl (by rw [List.length_map, List.length_range]; omega) (fun i x y e1 e2 => by
        rw [e1] at e2
        obtain rfl := Option.some.inj e2
        rw [List.getElem?_map] at e1
        obtain ⟨_, _, rfl⟩ := Option.map_eq_some_iff.mp e1
        exact .flat rfl)
      refine ⟨_, _, rfl, eqd_lst (n := 3) (sg _ _ (sf _ _ ew1)) upd_same (by show 3 ≤ 1000; decide) (.cons (.flat rfl) (.cons (.flat rfl) (.cons ez .nil))), fun Hg sgg => ⟨_, rfl, ?_⟩⟩
      refine iteF ?_
      have scg := Same.trans sd (Same.trans se (Same.trans sf (Same.trans sg sgg)))
      have s8g := Same.trans sc scg
      have A10 := A9.same s8g
      have A10' := A9'.same s8g
      have eg10 := s8g _ _ eg9
      have B10 := B9.same s8g
      have R10 := Rb.same s8g
      have hrt10 := scg _ _ hrt
      have hRt10 := rowsLi_same hRt scg
      clear hD1 hD2 hw1 hw2 sd se sf sg sgg ez ew1 hD1' hD2' A3 A4 A34 A36 A46
      try dsimp (config := { proj := false }) only [gName, List.set_cons_succ, List.set_cons_zero]
      -- the figures at the settings of zeros
      refine ⟨_, rfl, rt, rfl, ⟨_, SqL.of hrt10⟩, fun D3' hD3 => ?_⟩
      refine lc_seq (fs := ((ds ++ List.replicate n 0).take n).map V.int) (sj_L (K := K) fun H6 s6 => SqL.of (s6 _ _ hrt10)) hD3 (by rw [← hze, List.length_map, List.length_map, List.length_range, hyl]) (small1000 (by omega)) ?_ ?_ gm_name
      · intro j v z Hx Qk hv hz sx k2
        have hj : j < n := by rw [← hyl]; exact (List.getElem?_eq_some_iff.mp hv).1
        obtain ⟨rw', e1, e2, e3⟩ := hrow j hj
        obtain ⟨c, rfl, hc⟩ := hRt10.2 j v rw' hv e1
        rw [← hze, List.getElem?_map, List.getElem?_map, List.getElem?_range hj] at hz
        obtain rfl := (Option.some.inj hz).symm
        have h0 : 0 < rw'.length := by rw [e2]; exact Nat.pow_pos hq
        refine ⟨rfl, _, rfl, c, _, _, _, rfl, rfl, SqL.of (sx _ _ hc), at_of (j := 0) rfl (by rw [List.getElem?_map, List.getElem?_eq_getElem h0]; rfl), ?_⟩
        rw [List.getD_eq_getElem?_getD, List.getElem?_eq_getElem h0] at e3
        rw [show rw'[0] = ttM T j 0 from e3]
        exact k2 _ (fun _ _ e => e)
      intro Hh sh hD3'
      refine ⟨_, rfl, by show 1 ≤ sizeLine; decide, fun q0 hq0 => ?_⟩
      have si := same_new (o := .lst [.int 0]) hq0
      refine ⟨_, rfl, q0, _, [.int 0], rfl, rfl, upd_same, by omega, by omega, by rw [Int.toNat_natCast]; show 1 * n ≤ sizeLine; omega, fun q1 hq1 => ?_⟩
      rw [Int.toNat_natCast, flat_rep0u]
      have sj := same_add (o := .lst ((List.replicate n (0 : Int)).map V.int)) si hq1
      refine ⟨g, q1, _, _, rfl, rfl, sj _ _ (sh _ _ eg10), upd_same, ?_, fun q2 hq2 => ?_⟩
      · rw [List.length_map, List.length_map, List.length_replicate]
        have hsl : (20000 : Nat) < sizeLine := by rw [sizeLine_eq]; decide
        omega
      have sk := same_add (o := .lst (ds.map V.int ++ (List.replicate n (0 : Int)).map V.int)) sj hq2
      refine no_partR ?_
      refine ⟨_, rfl, _, rfl, sl_listZ (n := n) rfl upd_same fun rr Hi sii hrr => ?_⟩
      rw [← List.map_append, ← List.map_take] at hrr
      have shi := Same.trans sk sii
      refine ne_lst (shi _ _ hD3') hrr ⟨_, rfl, ?_⟩
      refine iteF ?_
      have sgi := Same.trans sh shi
      have A11 := A10.same sgi
      have A11' := A10'.same sgi
      have eg11 := sgi _ _ eg10
      have B11 := B10.same sgi
      have R11 := R10.same sgi
      have hrt11 := sgi _ _ hrt10
      have hRt11 := rowsLi_same hRt10 sgi
      clear hD3 hq0 hq1 hq2 si sj sk sii shi hrr hD3' sh
      try dsimp (config := { proj := false }) only [gName, List.set_cons_succ, List.set_cons_zero]
      -- all settings
      refine ⟨_, rfl, _, rfl, q, n, rfl, hP, by omega, few_powN hP (by omega), fun Hj rr rows sj hrr0 hrr hrl hrows => ⟨rr, rfl, ⟨_, SqL.of hrr⟩, ?_⟩⟩
      refine for_seq (xs := rows) (sj_L (K := K) (S := fun H' => Same Hj H') fun H1 h => SqL.of (h _ _ hrr)) (fun j σ H' => Same Hj H' ∧ ∃ vb', σ = [some (.ref a0), some (.ref b), some (.int (0 + (i : Int))), some (.int (q : Int)), some (.int (n : Int)), some (.ref t1), some (.ref t2), some (.ref g), some (.ref g2), some (.ref r), some (.ref rt), vb', vc, vd]) ⟨fun _ _ e => e, _, rfl⟩ (fun j σ H' h => h.1) ?_ ?_
      · rintro j v σ H3' hv ⟨s3, vb', rfl⟩
        obtain ⟨a, cs, rfl, ha, hF, hcl, hcv⟩ := hrows j v hv
        have dT : cs.length = T.length := by rw [hcl, hlen]
        have lM := behM_len (q : Int) M st cs
        have fM : Figs (q : Int) (behM q M st cs) := behM_in hP cs st
        have sj3 := Same.trans sj s3
        try dsimp (config := { proj := false }) only [gName, List.set_cons_succ, List.set_cons_zero]
        refine ⟨_, rfl, _, rfl, _, rfl, _, rfl, t1, a, _, M, st, cs, rfl, A11.same sj3, hOM, s3 _ _ ha, hF, by omega, fun H4' w1 s4 hw10 hw1 => ?_⟩
        have sj4 := Same.trans sj3 s4
        refine ⟨_, rt, w1, ys, T, _, rfl, hT, sj4 _ _ hrt11, rowsLi_same hRt11 sj4, hw1, fM, by rw [lM, dT], fun H5' w2 s5 hw20 hw2 => ?_⟩
        have sj5 := Same.trans sj4 s5
        have s35 := Same.trans s3 (Same.trans s4 s5)
        refine ⟨_, rfl, _, rfl, _, rfl, _, rfl, _, rt, a, ys, T, cs, rfl, hT, sj5 _ _ hrt11, rowsLi_same hRt11 sj5, s35 _ _ ha, hF, dT, fun H6' w3 s6 hw30 hw3 => ?_⟩
        have sj6 := Same.trans sj5 s6
        have nl := nam_len (p := (q : Int)) dT
        have fN := nam_figs (p := (q : Int)) (T := T) (ds := cs) (by omega)
        refine ⟨t2, w3, _, N, su, _, rfl, A11'.same sj6, hON, hw3, fN, by rw [nl]; omega, fun H7' w4 s7 hw40 hw4 => ?_⟩
        rw [hways cs hF hcl] at hw2
        refine ne_tup ((Same.trans s6 s7) _ _ hw2) hw4 ⟨_, rfl, ?_⟩
        refine iteF ?_
        exact ⟨Same.trans s35 (Same.trans s6 s7), _, rfl⟩
      rintro σ Hk ⟨sk, vb', rfl⟩
      have sk2 := Same.trans sj sk
      have A12 := A11.same sk2
      have A12' := A11'.same sk2
      have eg12 := sk2 _ _ eg11
      have B12 := B11.same sk2
      have R12 := R11.same sk2
      clear hrows hrl hrr sj sk
      try dsimp (config := { proj := false }) only [gName, List.set_cons_succ, List.set_cons_zero]
      -- leads
      obtain ⟨dr, tr, xr, r1, r2, r3⟩ := id R12
      refine ⟨_, rfl, r, dr, _, rfl, r1, no_leads _ _, _, rfl, t1, _, M, st, rfl, A12, hOM, fun Hl x2 sl hx20 X2 => ?_⟩
      refine ⟨_, rfl, t2, _, N, su, rfl, A12'.same sl, hON, fun Hm y2 sm hy20 Y2 => ?_⟩
      have slm := Same.trans sl sm
      refine ⟨r, x2, y2, q, T, M, N, st, su, rfl, R12.same slm, hT, X2.same sm, hOM, Y2, hON, fun Hn sn => ?_⟩
      rw [hlen, hld]
      refine ⟨_, rfl, ?_⟩
      refine iteF ?_
      have sln := Same.trans slm sn
      -- the inverse leads back
      refine ⟨_, rfl, r, dr, _, rfl, sln _ _ r1, no_invR _ _, r, q, T, rfl, R12.same sln, hT, fun Ho z U so hz0 Z hU hUl hUM => ?_⟩
      rw [hlen] at hUl hUM
      have hld2 := ld_inv hq hUM hld
      obtain ⟨dz, tz, xz, z1, z2, z3⟩ := id Z
      have slo := Same.trans sln so
      refine ⟨z, dz, _, rfl, z1, no_leads _ _, _, rfl, t2, _, N, su, rfl, A12'.same slo, hON, fun Hp x3 sp hx30 X3 => ?_⟩
      refine ⟨_, rfl, t1, _, M, st, rfl, A12.same (Same.trans slo sp), hOM, fun Hq y3 sq hy30 Y3 => ?_⟩
      have spq := Same.trans sp sq
      refine ⟨z, x3, y3, q, U, N, M, su, st, rfl, Z.same spq, hU, X3.same sq, hON, Y3, hOM, fun Hr sr => ?_⟩
      rw [hUl, hld2]
      refine ⟨_, rfl, ?_⟩
      refine iteF ?_
      have slr := Same.trans slo (Same.trans spq sr)
      have A13 := A12.same slr
      have A13' := A12'.same slr
      have eg13 := slr _ _ eg12
      have B13 := B12.same slr
      have R13 := R12.same slr
      clear sl sm sn so sp sq sr slm sln slo spq hx20 hy20 hx30 hy30 hz0 X2 Y2 X3 Y3 Z
      try dsimp (config := { proj := false }) only [gName, List.set_cons_succ, List.set_cons_zero]
      -- plain
      refine ⟨_, rfl, t1, _, M, st, rfl, A13, hOM, fun Hs x4 ss hx40 X4 => ?_⟩
      refine ⟨_, rfl, t2, _, N, su, rfl, A13'.same ss, hON, fun Ht y4 st' hy40 Y4 => ?_⟩
      refine ⟨_, rfl, rfl, rfl, x4, y4, aK, q, n, M, N, st, su, [], rfl, X4.same st', Y4, hTS, .inl ⟨rfl, hAK _⟩, fun d hd => (by cases hd), by decide, hn, h500, h900, fun Hu r4 f4 su' hr40 hf4 R4 => ?_⟩
      have hT4 := relT_ok (f := f4) hTS hn h500 (Nat.le_trans h900 (by decide))
      have hlen4 := relT_len q M st N su n f4
      have hrow4 := hrowA f4
      have hze4 := rel_zeros hTS (fun d hd => (by cases hd)) hf4
      rw [List.nil_append, List.take_of_length_le (by rw [List.length_replicate]; exact Nat.le_refl _)] at hze4
      generalize relT q M st N su n f4 = T4 at R4 hT4 hlen4 hrow4 hze4
      have ssu := Same.trans ss (Same.trans st' su')
      have A14 := A13.same ssu
      have A14' := A13'.same ssu
      have eg14 := ssu _ _ eg13
      have B14 := B13.same ssu
      have R14 := R13.same ssu
      clear ss st' su' hx40 hy40 X4 Y4
      try dsimp (config := { proj := false }) only [gName, List.set_cons_succ, List.set_cons_zero]
      obtain ⟨d4, t4, xx4, h41, h42, h43⟩ := id R4
      refine ⟨_, rfl, r4, d4, _, rfl, h41, no_tbs _ _, r4, _, T4, rfl, R4, hT4, fun Hv rt4 ys4 sv hrt40 hrt4 hRt4 hfr4 => ?_⟩
      have hyl4 : ys4.length = n := by rw [hRt4.1, hlen4]
      refine ⟨rt4, rfl, ⟨_, SqL.of hrt4⟩, fun D4' hD4 => ?_⟩
      refine lc_seq (fs := (List.replicate n (0 : Int)).map V.int) (sj_L (K := K) fun H6 s6 => SqL.of (s6 _ _ hrt4)) hD4 (by rw [List.length_map, List.length_replicate, hyl4]) (small1000 (by omega)) ?_ ?_ gm_name
      · intro j v z Hx Qk hv hz sx k2
        have hj : j < n := by rw [← hyl4]; exact (List.getElem?_eq_some_iff.mp hv).1
        obtain ⟨rw', e1, e2, e3⟩ := hrow4 j hj
        obtain ⟨c, rfl, hc⟩ := hRt4.2 j v rw' hv e1
        rw [← hze4, List.getElem?_map, List.getElem?_map, List.getElem?_range hj] at hz
        obtain rfl := (Option.some.inj hz).symm
        have h0 : 0 < rw'.length := by rw [e2]; exact Nat.pow_pos hq
        refine ⟨rfl, _, rfl, c, _, _, _, rfl, rfl, SqL.of (sx _ _ hc), at_of (j := 0) rfl (by rw [List.getElem?_map, List.getElem?_eq_getElem h0]; rfl), ?_⟩
        rw [List.getD_eq_getElem?_getD, List.getElem?_eq_getElem h0] at e3
        rw [show rw'[0] = ttM T4 j 0 from e3]
        exact k2 _ (fun _ _ e => e)
      intro Hw sw hD4'
      refine ⟨by show 1 ≤ sizeLine; decide, fun q0 hq0 => ?_⟩
      have si := same_new (o := .lst [.int 0]) hq0
      refine ⟨_, rfl, q0, _, [.int 0], rfl, rfl, upd_same, by omega, by omega, by rw [Int.toNat_natCast]; show 1 * n ≤ sizeLine; omega, fun q1 hq1 => ?_⟩
      rw [Int.toNat_natCast, flat_rep0u]
      have sj := same_add (o := .lst ((List.replicate n (0 : Int)).map V.int)) si hq1
      refine ne_lst (sj _ _ hD4') upd_same ⟨_, rfl, ?_⟩
      refine iteF ?_
      have svj := Same.trans sv (Same.trans sw sj)
      -- the figures as a tuple
      refine ⟨_, rfl, t1, _, M, st, rfl, A14.same svj, hOM, fun Hx x5 sx hx50 X5 => ?_⟩
      refine ⟨_, rfl, t2, _, N, su, rfl, A14'.same (Same.trans svj sx), hON, fun Hy y5 sy hy50 Y5 => ?_⟩
      have svy := Same.trans svj (Same.trans sx sy)
      refine ⟨_, rfl, _, rfl, g, _, rfl, .inl ⟨SqL.of (svy _ _ eg14), fun ta hta0 => ?_⟩⟩
      have sta := same_new (o := .tup (ds.map V.int)) hta0
      refine ⟨rfl, rfl, x5, y5, ta, q, n, M, N, st, su, ds, rfl, (X5.same sy).same sta, Y5.same sta, hTS, .inr upd_same, hFg, by omega, hn, h500, h900, fun Hz r5 f5 sz hr50 hf5 R5 => ?_⟩
      rw [hfz f5 hf5] at R5
      have svz := Same.trans svy (Same.trans sta sz)
      have R15 := R14.same svz
      obtain ⟨d5, t5, xx5, h51, h52, h53⟩ := id R5
      obtain ⟨d6, t6, xx6, h61, h62, h63'⟩ := id R15
      refine ⟨_, rfl, r5, r, d5, d6, _, _, rfl, rfl, h51, h61, .inl ⟨r5, r, _, _, _, _, rfl, R5, R15, _, rfl, ?_⟩⟩
      rw [show (!(decide ((q : Int) = (q : Int)) && decide (T = T))) = false by simp]
      refine ⟨_, rfl, ?_⟩
      refine iteF ?_
      exact ⟨_, _, _, _, _, _, _, _, _, _, _, _, rfl, B14.same svz⟩
    · rintro σ H' ⟨v2, v3, v4, v5, v6, v7, v8, v9, va, vb, vc, vd, rfl, hB⟩
      exact k H'
end

theorem df_mk {P : Program} {w : World} {K : PySem.W.Frag} {mg : Str → Option Value} {base : Heap} {k : Nat} {x : Str} {ps : List Str} {sp : Sp} {f : Addr} {fd : FuncData} (hm : mg x = some (.ref f)) (hk : PySem.W.keepIn K (.ref f) = true) (hb : Binds K fd ps []) (F : FnOk P w K mg base CX0 k f fd ps sp) : Df P w K mg base k x ps sp := ⟨⟨f, fd, hm, hk, hb, F⟩⟩
theorem same_all {P : Program} {w : World} {K : PySem.W.Frag} {mg : Str → Option Value} {base : Heap} {f : Addr} {fd : FuncData} (F : Fun K "_law_same" "_law_same" sSame f fd) (B : Bn mg) (bs : mg "str" = none) (hm : mg "_law_same" = some (.ref f)) (hk : PySem.W.keepIn K (.ref f) = true) (hb : Binds K fd ["_law_found", "_law_due"] []) :
    ∀ n, FnOk P w K mg base CX0 n f fd ["_law_found", "_law_due"] (spS K n)
  | 0 => ⟨fun vs H Q E h => h.elim, fun A outer s H args us vs Q E _ _ _ _ h => h.elim⟩
  | n + 1 => ok_same F B bs (df_mk hm hk hb (same_all F B bs hm hk hb n))
abbrev sRPr : Stmt := inClass (top 47) 2
theorem sc_RPr : FnScope ["self"] ["self"] (defScope sRPr) := ⟨rfl, rfl, rfl, by decide +kernel, rfl, by decide +kernel, by decide +kernel⟩
abbrev sPrm : Stmt := inClass (top 66) 4
theorem sc_sPrm : FnScope ["self"] ["self"] (defScope sPrm) := ⟨rfl, rfl, rfl, by decide +kernel, rfl, by decide +kernel, by decide +kernel⟩
abbrev sStt : Stmt := inClass (top 66) 5
theorem sc_sStt : FnScope ["self"] ["self"] (defScope sStt) := ⟨rfl, rfl, rfl, by decide +kernel, rfl, by decide +kernel, by decide +kernel⟩
/-- a def with one keyword default that is an empty tuple of the written part -/
def kwTB (K : Fg) (f : Addr) (k : Str) : Bool := match K.lookup f with
  | some ⟨_, _, .func fd, _⟩ => (match fd.kwdefaults with
    | .ref D => (match PySem.W.nsIn K D k with
      | some (some (.ref A)) => (match K.lookup A with
        | some ⟨ct, _, .seq ⟨[]⟩ _, _⟩ => decide (ct = .type "tuple")
        | _ => false)
      | _ => false)
    | _ => false)
  | _ => false
theorem kwTB_ok {K : Fg} {f : Addr} {k : Str} (h : kwTB K f k = true) : ∃ (oc : Value) (od : Option Addr) (fd : FuncData) (sl : Array (Option Value)) (D A : Addr) (o : Obj) (n : Nat), K.lookup f = some ⟨oc, od, .func fd, sl⟩ ∧ fd.kwdefaults = .ref D ∧ PySem.W.nsIn K D k = some (some (.ref A)) ∧ K.lookup A = some o ∧ o.cls = .type "tuple" ∧ o.data = .seq #[] n := by
  unfold kwTB at h
  split at h
  · rename_i oc od fd sl e1
    split at h
    · rename_i D e2
      split at h
      · rename_i A e3
        split at h
        · rename_i ct dd n sl2 e4
          exact ⟨oc, od, fd, sl, D, A, _, n, e1, e2, e3, e4, of_decide_eq_true h, rfl⟩
        · cases h
      · cases h
    · cases h
  · cases h

def nsL0 : List Str := ["_wall", "copied", "TurnError", "Missing", "InvalidPrime", "InvalidFigure", "InvalidSetting", "InvalidCount", "InvalidState", "InvalidStart", "InvalidText", "InvalidCounts", "InvalidTable", "PrimesDiffer", "TooMany", "NotSingle", "NoRelabelling", "UnknownState", "PRIMES", "MOST_DIALS", "MOST_SETTINGS", "is_number", "is_below", "check_prime", "check_count", "count_settings", "is_setting", "check_setting", "number_of", "are_counts"]
def nsL1 : List Str := ["_check_counts", "first_counts", "next_counts", "turn_total", "totals_below", "tables_of", "images", "_is_table", "_check_tables", "_undone_table", "_joined_table", "Relabelling", "_check_chosen", "_check_totals", "_table_between", "relabel", "DIGITS", "is_numeral", "MOST_DIGITS", "_is_state", "_first_wrong", "_undone", "_pairs_behind", "_product_states", "_state_text", "_read_number", "_halves", "_read_state", "Turner", "_law_bag"]
def nsL2 : List Str := ["_law_pull", "_law_of", "_law_same", "_law_prime", "_law_figures", "_law_plain", "_law_made", "_law_way", "_law_behind", "_law_all_rows", "_law_value", "_law_times", "_law_few", "_law_undone", "_law_joined", "_law_odometer", "_law_single", "_law_named", "law"]
def nsL : List Str := nsL0 ++ nsL1 ++ nsL2
def fsL0 : List FdO := [⟨fun K => He.ga K "is_number", "is_number", "is_number", defArgs sNum, defBody sNum, defScope sNum, [], []⟩,
  ⟨fun K => He.ga K "is_below", "is_below", "is_below", defArgs sBel, defBody sBel, defScope sBel, [], []⟩,
  ⟨fun K => He.ga K "check_prime", "check_prime", "check_prime", defArgs sChP, defBody sChP, defScope sChP, [], []⟩,
  ⟨fun K => He.ga K "check_count", "check_count", "check_count", defArgs sCC, defBody sCC, defScope sCC, [], []⟩,
  ⟨fun K => He.ga K "count_settings", "count_settings", "count_settings", defArgs sCoS, defBody sCoS, defScope sCoS, [], []⟩,
  ⟨fun K => He.ga K "is_setting", "is_setting", "is_setting", defArgs sIsS, defBody sIsS, defScope sIsS, [], []⟩,
  ⟨fun K => He.ga K "check_setting", "check_setting", "check_setting", defArgs sChS, defBody sChS, defScope sChS, [], []⟩,
  ⟨fun K => He.ga K "number_of", "number_of", "number_of", defArgs sNoOf, defBody sNoOf, defScope sNoOf, [], []⟩,
  ⟨fun K => He.ga K "are_counts", "are_counts", "are_counts", defArgs sAre, defBody sAre, defScope sAre, [], []⟩,
  ⟨fun K => He.ga K "_check_counts", "_check_counts", "_check_counts", defArgs sChC, defBody sChC, defScope sChC, [], []⟩,
  ⟨fun K => He.ga K "first_counts", "first_counts", "first_counts", defArgs sFC, defBody sFC, defScope sFC, [], []⟩,
  ⟨fun K => He.ga K "next_counts", "next_counts", "next_counts", defArgs sNC, defBody sNC, defScope sNC, [], []⟩,
  ⟨fun K => He.ga K "turn_total", "turn_total", "turn_total", defArgs sTT, defBody sTT, defScope sTT, [], []⟩,
  ⟨fun K => He.ga K "totals_below", "totals_below", "totals_below", defArgs sTB, defBody sTB, defScope sTB, [], []⟩,
  ⟨fun K => He.ga K "tables_of", "tables_of", "tables_of", defArgs sTO, defBody sTO, defScope sTO, [], []⟩,
  ⟨fun K => He.ga K "images", "images", "images", defArgs sIm, defBody sIm, defScope sIm, [], []⟩,
  ⟨fun K => He.ga K "_is_table", "_is_table", "_is_table", defArgs sIsT, defBody sIsT, defScope sIsT, [], []⟩,
  ⟨fun K => He.ga K "_check_tables", "_check_tables", "_check_tables", defArgs sChT, defBody sChT, defScope sChT, [], []⟩,
  ⟨fun K => He.ga K "_undone_table", "_undone_table", "_undone_table", defArgs sUT, defBody sUT, defScope sUT, [], []⟩,
  ⟨fun K => He.ga K "_check_chosen", "_check_chosen", "_check_chosen", defArgs sChs2, defBody sChs2, defScope sChs2, [], []⟩]
def fsL1 : List FdO := [⟨fun K => He.ga K "_check_totals", "_check_totals", "_check_totals", defArgs sCTo, defBody sCTo, defScope sCTo, [], []⟩,
  ⟨fun K => He.ga K "_table_between", "_table_between", "_table_between", defArgs sTbw, defBody sTbw, defScope sTbw, [], []⟩,
  ⟨fun K => He.ga K "relabel", "relabel", "relabel", defArgs sRl, defBody sRl, defScope sRl, [], []⟩,
  ⟨fun K => He.ga K "copied", "copied", "copied", defArgs sCp, defBody sCp, defScope sCp, [], []⟩,
  ⟨fun K => He.ga K "_is_state", "_is_state", "_is_state", defArgs sIsSt, defBody sIsSt, defScope sIsSt, [], []⟩,
  ⟨fun K => He.ga K "_first_wrong", "_first_wrong", "_first_wrong", defArgs sFirst, defBody sFirst, defScope sFirst, [], []⟩,
  ⟨fun K => He.ga K "_law_bag", "_law_bag", "_law_bag", defArgs sBag, defBody sBag, defScope sBag, [], []⟩,
  ⟨fun K => He.ga K "_law_pull", "_law_pull", "_law_pull", defArgs sPull, defBody sPull, defScope sPull, [], []⟩,
  ⟨fun K => He.ga K "_law_of", "_law_of", "_law_of", defArgs sOf, defBody sOf, defScope sOf, [], []⟩,
  ⟨fun K => He.ga K "_law_same", "_law_same", "_law_same", defArgs sSame, defBody sSame, defScope sSame, [], []⟩,
  ⟨fun K => He.ga K "_law_prime", "_law_prime", "_law_prime", defArgs sPrime, defBody sPrime, defScope sPrime, [], []⟩,
  ⟨fun K => He.ga K "_law_figures", "_law_figures", "_law_figures", defArgs sFigs, defBody sFigs, defScope sFigs, [], []⟩,
  ⟨fun K => He.ga K "_law_plain", "_law_plain", "_law_plain", defArgs sPlain, defBody sPlain, defScope sPlain, [], []⟩,
  ⟨fun K => He.ga K "_law_made", "_law_made", "_law_made", defArgs sMade, defBody sMade, defScope sMade, [], []⟩,
  ⟨fun K => He.ga K "_law_way", "_law_way", "_law_way", defArgs sWay, defBody sWay, defScope sWay, [], []⟩,
  ⟨fun K => He.ga K "_law_behind", "_law_behind", "_law_behind", defArgs sBeh, defBody sBeh, defScope sBeh, [], []⟩,
  ⟨fun K => He.ga K "_law_all_rows", "_law_all_rows", "_law_all_rows", defArgs sAll, defBody sAll, defScope sAll, [], []⟩,
  ⟨fun K => He.ga K "_law_value", "_law_value", "_law_value", defArgs sLV, defBody sLV, defScope sLV, [], []⟩,
  ⟨fun K => He.ga K "_law_times", "_law_times", "_law_times", defArgs sLT, defBody sLT, defScope sLT, [], []⟩,
  ⟨fun K => He.ga K "_law_few", "_law_few", "_law_few", defArgs sFew, defBody sFew, defScope sFew, [], []⟩]
def fsL2 : List FdO := [⟨fun K => He.ga K "_law_undone", "_law_undone", "_law_undone", defArgs sLUnd, defBody sLUnd, defScope sLUnd, [], []⟩,
  ⟨fun K => He.ga K "_law_joined", "_law_joined", "_law_joined", defArgs sJoin, defBody sJoin, defScope sJoin, [], []⟩,
  ⟨fun K => He.ga K "_law_odometer", "_law_odometer", "_law_odometer", defArgs sOd, defBody sOd, defScope sOd, [], []⟩,
  ⟨fun K => He.ga K "_law_single", "_law_single", "_law_single", defArgs sSg, defBody sSg, defScope sSg, [], []⟩,
  ⟨fun K => He.ga K "_law_named", "_law_named", "_law_named", defArgs sLNm, defBody sLNm, defScope sLNm, [], []⟩,
  ⟨fun K => He.ga K "law", "law", "law", defArgs sLaw, defBody sLaw, defScope sLaw, [], []⟩,
  ⟨fun K => (He.ma K (He.ga K "Turner") "states"), "states", "Turner.states", defArgs sStates, defBody sStates, defScope sStates, [], []⟩,
  ⟨fun K => (He.ma K (He.ga K "Turner") "__len__"), "__len__", "Turner.__len__", defArgs sLen, defBody sLen, defScope sLen, [], []⟩,
  ⟨fun K => (paA K "property" (He.ma K (He.ga K "Turner") "prime")), "prime", "Turner.prime", defArgs sPrm, defBody sPrm, defScope sPrm, [], []⟩,
  ⟨fun K => (paA K "property" (He.ma K (He.ga K "Turner") "start")), "start", "Turner.start", defArgs sStt, defBody sStt, defScope sStt, [], []⟩,
  ⟨fun K => (He.ma K (He.ga K "Turner") "__init__"), "__init__", "Turner.__init__", defArgs sInit, defBody sInit, defScope sInit, [], [("start", .int 0)]⟩,
  ⟨fun K => (He.ma K (He.ga K "Relabelling") "tables"), "tables", "Relabelling.tables", defArgs sRTb, defBody sRTb, defScope sRTb, [], []⟩,
  ⟨fun K => (He.ma K (He.ga K "Relabelling") "__eq__"), "__eq__", "Relabelling.__eq__", defArgs sREq, defBody sREq, defScope sREq, [], []⟩,
  ⟨fun K => (He.ma K (He.ga K "Relabelling") "inverse"), "inverse", "Relabelling.inverse", defArgs sRInv, defBody sRInv, defScope sRInv, [], []⟩,
  ⟨fun K => (He.ma K (He.ga K "Relabelling") "leads"), "leads", "Relabelling.leads", defArgs sLd, defBody sLd, defScope sLd, [], []⟩,
  ⟨fun K => (He.ma K (He.ga K "Relabelling") "_behind"), "_behind", "Relabelling._behind", defArgs sRBh, defBody sRBh, defScope sRBh, [], []⟩,
  ⟨fun K => (paA K "property" (He.ma K (He.ga K "Relabelling") "prime")), "prime", "Relabelling.prime", defArgs sRPr, defBody sRPr, defScope sRPr, [], []⟩,
  ⟨fun K => (paA K "property" (He.ma K (He.ga K "Relabelling") "dials")), "dials", "Relabelling.dials", defArgs sRDi, defBody sRDi, defScope sRDi, [], []⟩,
  ⟨fun K => (He.ma K (He.ga K "Relabelling") "__init__"), "__init__", "Relabelling.__init__", defArgs sRIn, defBody sRIn, defScope sRIn, [], []⟩,
  ⟨fun K => (He.ma K (He.ga K "PrimesDiffer") "__init__"), "__init__", "PrimesDiffer.__init__", defArgs sE_PrimesDiffer, defBody sE_PrimesDiffer, defScope sE_PrimesDiffer, ["__class__"], []⟩]
def fsL : List FdO := fsL0 ++ (fsL1 ++ (fsL2))
def exL0 (K : Fg) : List Bool := [decide (PySem.W.nsIn K mainGlobals "is_number" = some (some (.ref (He.ga K "is_number")))),
  decide (PySem.W.nsIn K mainGlobals "is_below" = some (some (.ref (He.ga K "is_below")))),
  decide (PySem.W.nsIn K mainGlobals "check_prime" = some (some (.ref (He.ga K "check_prime")))),
  decide (PySem.W.nsIn K mainGlobals "check_count" = some (some (.ref (He.ga K "check_count")))),
  decide (PySem.W.nsIn K mainGlobals "count_settings" = some (some (.ref (He.ga K "count_settings")))),
  decide (PySem.W.nsIn K mainGlobals "is_setting" = some (some (.ref (He.ga K "is_setting")))),
  decide (PySem.W.nsIn K mainGlobals "check_setting" = some (some (.ref (He.ga K "check_setting")))),
  decide (PySem.W.nsIn K mainGlobals "number_of" = some (some (.ref (He.ga K "number_of")))),
  decide (PySem.W.nsIn K mainGlobals "are_counts" = some (some (.ref (He.ga K "are_counts")))),
  decide (PySem.W.nsIn K mainGlobals "_check_counts" = some (some (.ref (He.ga K "_check_counts")))),
  decide (PySem.W.nsIn K mainGlobals "first_counts" = some (some (.ref (He.ga K "first_counts")))),
  decide (PySem.W.nsIn K mainGlobals "next_counts" = some (some (.ref (He.ga K "next_counts")))),
  decide (PySem.W.nsIn K mainGlobals "turn_total" = some (some (.ref (He.ga K "turn_total")))),
  decide (PySem.W.nsIn K mainGlobals "totals_below" = some (some (.ref (He.ga K "totals_below")))),
  decide (PySem.W.nsIn K mainGlobals "tables_of" = some (some (.ref (He.ga K "tables_of")))),
  decide (PySem.W.nsIn K mainGlobals "images" = some (some (.ref (He.ga K "images")))),
  decide (PySem.W.nsIn K mainGlobals "_is_table" = some (some (.ref (He.ga K "_is_table")))),
  decide (PySem.W.nsIn K mainGlobals "_check_tables" = some (some (.ref (He.ga K "_check_tables")))),
  decide (PySem.W.nsIn K mainGlobals "_undone_table" = some (some (.ref (He.ga K "_undone_table")))),
  decide (PySem.W.nsIn K mainGlobals "_check_chosen" = some (some (.ref (He.ga K "_check_chosen")))),
  decide (PySem.W.nsIn K mainGlobals "_check_totals" = some (some (.ref (He.ga K "_check_totals")))),
  decide (PySem.W.nsIn K mainGlobals "_table_between" = some (some (.ref (He.ga K "_table_between")))),
  decide (PySem.W.nsIn K mainGlobals "relabel" = some (some (.ref (He.ga K "relabel")))),
  decide (PySem.W.nsIn K mainGlobals "copied" = some (some (.ref (He.ga K "copied")))),
  decide (PySem.W.nsIn K mainGlobals "_is_state" = some (some (.ref (He.ga K "_is_state"))))]
def exL1 (K : Fg) : List Bool := [decide (PySem.W.nsIn K mainGlobals "_first_wrong" = some (some (.ref (He.ga K "_first_wrong")))),
  decide (PySem.W.nsIn K mainGlobals "_law_bag" = some (some (.ref (He.ga K "_law_bag")))),
  decide (PySem.W.nsIn K mainGlobals "_law_pull" = some (some (.ref (He.ga K "_law_pull")))),
  decide (PySem.W.nsIn K mainGlobals "_law_of" = some (some (.ref (He.ga K "_law_of")))),
  decide (PySem.W.nsIn K mainGlobals "_law_same" = some (some (.ref (He.ga K "_law_same")))),
  decide (PySem.W.nsIn K mainGlobals "_law_prime" = some (some (.ref (He.ga K "_law_prime")))),
  decide (PySem.W.nsIn K mainGlobals "_law_figures" = some (some (.ref (He.ga K "_law_figures")))),
  decide (PySem.W.nsIn K mainGlobals "_law_plain" = some (some (.ref (He.ga K "_law_plain")))),
  decide (PySem.W.nsIn K mainGlobals "_law_made" = some (some (.ref (He.ga K "_law_made")))),
  decide (PySem.W.nsIn K mainGlobals "_law_way" = some (some (.ref (He.ga K "_law_way")))),
  decide (PySem.W.nsIn K mainGlobals "_law_behind" = some (some (.ref (He.ga K "_law_behind")))),
  decide (PySem.W.nsIn K mainGlobals "_law_all_rows" = some (some (.ref (He.ga K "_law_all_rows")))),
  decide (PySem.W.nsIn K mainGlobals "_law_value" = some (some (.ref (He.ga K "_law_value")))),
  decide (PySem.W.nsIn K mainGlobals "_law_times" = some (some (.ref (He.ga K "_law_times")))),
  decide (PySem.W.nsIn K mainGlobals "_law_few" = some (some (.ref (He.ga K "_law_few")))),
  decide (PySem.W.nsIn K mainGlobals "_law_undone" = some (some (.ref (He.ga K "_law_undone")))),
  decide (PySem.W.nsIn K mainGlobals "_law_joined" = some (some (.ref (He.ga K "_law_joined")))),
  decide (PySem.W.nsIn K mainGlobals "_law_odometer" = some (some (.ref (He.ga K "_law_odometer")))),
  decide (PySem.W.nsIn K mainGlobals "_law_single" = some (some (.ref (He.ga K "_law_single")))),
  decide (PySem.W.nsIn K mainGlobals "_law_named" = some (some (.ref (He.ga K "_law_named")))),
  decide (PySem.W.nsIn K mainGlobals "law" = some (some (.ref (He.ga K "law")))),
  decide (PySem.W.nsIn K mainGlobals "len" = some none),
  decide (PySem.W.nsIn K mainGlobals "int" = some none),
  decide (PySem.W.nsIn K mainGlobals "abs" = some none),
  decide (PySem.W.nsIn K mainGlobals "list" = some none)]
def exL2 (K : Fg) : List Bool := [decide (PySem.W.nsIn K mainGlobals "tuple" = some none),
  decide (PySem.W.nsIn K mainGlobals "range" = some none),
  decide (PySem.W.nsIn K mainGlobals "isinstance" = some none),
  decide (PySem.W.nsIn K mainGlobals "all" = some none),
  decide (PySem.W.nsIn K mainGlobals "zip" = some none),
  decide (PySem.W.nsIn K mainGlobals "enumerate" = some none),
  decide (PySem.W.nsIn K mainGlobals "bool" = some none),
  decide (PySem.W.nsIn K mainGlobals "str" = some none),
  decide (PySem.W.nsIn K mainGlobals "super" = some none),
  decide (PySem.W.nsIn K mainGlobals "sum" = some none),
  decide (PySem.W.nsIn K mainGlobals "reversed" = some none),
  intB K "MOST_DIALS" 200,
  tup4 K (He.ga K "PRIMES") 2 3 5 7,
  decide (PySem.W.nsIn K mainGlobals "PRIMES" = some (some (.ref (He.ga K "PRIMES")))),
  intB K "MOST_SETTINGS" 20000,
  decide (PySem.W.nsIn K mainGlobals "Turner" = some (some (.ref (He.ga K "Turner")))),
  decide (PySem.W.findIn K (.ref (He.ga K "Turner")) "states" = some (some (.ref (He.ma K (He.ga K "Turner") "states")))),
  PySem.W.isFn K (.ref (He.ma K (He.ga K "Turner") "states")),
  decide (PySem.W.findIn K (.ref (He.ga K "Turner")) "__len__" = some (some (.ref (He.ma K (He.ga K "Turner") "__len__")))),
  PySem.W.isFn K (.ref (He.ma K (He.ga K "Turner") "__len__")),
  decide (PySem.W.findIn K (.ref (He.ga K "Turner")) "prime" = some (some (.ref (He.ma K (He.ga K "Turner") "prime")))),
  decide (PySem.W.specialIn K (.ref (He.ma K (He.ga K "Turner") "prime")) "__get__" = some (some (.builtin "property.__get__"))),
  decide (PySem.W.takesIn K (.ref (He.ma K (He.ga K "Turner") "prime")) = some true),
  recB K "property" (He.ma K (He.ga K "Turner") "prime"),
  decide (PySem.W.findIn K (.ref (He.ga K "Turner")) "start" = some (some (.ref (He.ma K (He.ga K "Turner") "start"))))]
def exL3 (K : Fg) : List Bool := [decide (PySem.W.specialIn K (.ref (He.ma K (He.ga K "Turner") "start")) "__get__" = some (some (.builtin "property.__get__"))),
  decide (PySem.W.takesIn K (.ref (He.ma K (He.ga K "Turner") "start")) = some true),
  recB K "property" (He.ma K (He.ga K "Turner") "start"),
  decide (PySem.W.findIn K (.ref (He.ga K "Turner")) "__init__" = some (some (.ref (He.ma K (He.ga K "Turner") "__init__")))),
  PySem.W.isFn K (.ref (He.ma K (He.ga K "Turner") "__init__")),
  PySem.W.plainGet K (He.ga K "Turner") Str.empty,
  PySem.W.hasDictIn K (He.ga K "Turner"),
  PySem.W.plainOver K (He.ga K "Turner"),
  decide (PySem.W.findIn K (.ref (He.ga K "Turner")) "__setattr__" = some (some (.builtin "object.__setattr__"))),
  decide (PySem.W.findIn K (.ref (He.ga K "Turner")) "_prime" = some none),
  decide (PySem.W.findIn K (.ref (He.ga K "Turner")) "_states" = some none),
  decide (PySem.W.findIn K (.ref (He.ga K "Turner")) "_start" = some none),
  PySem.W.readsIn K (He.ga K "Turner") (.type "type"),
  decide (PySem.W.specialIn K (.ref (He.ga K "Turner")) "__getattribute__" = some (some (.builtin "type.__getattribute__"))),
  conB K (He.ga K "Turner") "MOST" 240,
  PySem.W.makesIn K (He.ga K "Turner"),
  PySem.W.keepIn K (.ref (He.ga K "Turner")),
  decide (PySem.W.nsIn K mainGlobals "Relabelling" = some (some (.ref (He.ga K "Relabelling")))),
  decide (PySem.W.findIn K (.ref (He.ga K "Relabelling")) "tables" = some (some (.ref (He.ma K (He.ga K "Relabelling") "tables")))),
  PySem.W.isFn K (.ref (He.ma K (He.ga K "Relabelling") "tables")),
  decide (PySem.W.findIn K (.ref (He.ga K "Relabelling")) "__eq__" = some (some (.ref (He.ma K (He.ga K "Relabelling") "__eq__")))),
  PySem.W.isFn K (.ref (He.ma K (He.ga K "Relabelling") "__eq__")),
  decide (PySem.W.findIn K (.ref (He.ga K "Relabelling")) "inverse" = some (some (.ref (He.ma K (He.ga K "Relabelling") "inverse")))),
  PySem.W.isFn K (.ref (He.ma K (He.ga K "Relabelling") "inverse")),
  decide (PySem.W.findIn K (.ref (He.ga K "Relabelling")) "leads" = some (some (.ref (He.ma K (He.ga K "Relabelling") "leads"))))]
def exL4 (K : Fg) : List Bool := [PySem.W.isFn K (.ref (He.ma K (He.ga K "Relabelling") "leads")),
  decide (PySem.W.findIn K (.ref (He.ga K "Relabelling")) "_behind" = some (some (.ref (He.ma K (He.ga K "Relabelling") "_behind")))),
  PySem.W.isFn K (.ref (He.ma K (He.ga K "Relabelling") "_behind")),
  decide (PySem.W.findIn K (.ref (He.ga K "Relabelling")) "prime" = some (some (.ref (He.ma K (He.ga K "Relabelling") "prime")))),
  decide (PySem.W.specialIn K (.ref (He.ma K (He.ga K "Relabelling") "prime")) "__get__" = some (some (.builtin "property.__get__"))),
  decide (PySem.W.takesIn K (.ref (He.ma K (He.ga K "Relabelling") "prime")) = some true),
  recB K "property" (He.ma K (He.ga K "Relabelling") "prime"),
  decide (PySem.W.findIn K (.ref (He.ga K "Relabelling")) "dials" = some (some (.ref (He.ma K (He.ga K "Relabelling") "dials")))),
  decide (PySem.W.specialIn K (.ref (He.ma K (He.ga K "Relabelling") "dials")) "__get__" = some (some (.builtin "property.__get__"))),
  decide (PySem.W.takesIn K (.ref (He.ma K (He.ga K "Relabelling") "dials")) = some true),
  recB K "property" (He.ma K (He.ga K "Relabelling") "dials"),
  PySem.W.makesIn K (He.ga K "Relabelling"),
  decide (PySem.W.findIn K (.ref (He.ga K "Relabelling")) "__init__" = some (some (.ref (He.ma K (He.ga K "Relabelling") "__init__")))),
  PySem.W.isFn K (.ref (He.ma K (He.ga K "Relabelling") "__init__")),
  PySem.W.keepIn K (.ref (He.ga K "Relabelling")),
  PySem.W.plainGet K (He.ga K "Relabelling") Str.empty,
  PySem.W.hasDictIn K (He.ga K "Relabelling"),
  PySem.W.plainOver K (He.ga K "Relabelling"),
  decide (PySem.W.findIn K (.ref (He.ga K "Relabelling")) "__setattr__" = some (some (.builtin "object.__setattr__"))),
  decide (PySem.W.findIn K (.ref (He.ga K "Relabelling")) "_prime" = some none),
  decide (PySem.W.findIn K (.ref (He.ga K "Relabelling")) "_tables" = some none),
  decide (PySem.W.findIn K (.ref (He.ga K "Relabelling")) "__class__" = some (some (.builtin "object.__class__"))),
  decide (PySem.W.specialIn K (.builtin "object.__class__") "__get__" = some (some (.builtin "getset_descriptor.__get__"))),
  decide (PySem.W.takesIn K (.builtin "object.__class__") = some true),
  decide (PySem.W.mroIn K (He.ga K "Relabelling") (.type "object") = some true)]
def exL5 (K : Fg) : List Bool := [decide (PySem.W.findIn K (.ref (He.ga K "Relabelling")) "__ne__" = some (some (.builtin "object.__ne__"))),
  decide (PySem.W.typeIn K (.ref (He.ga K "Relabelling")) = some (.type "type")),
  cdB K (He.ma K (He.ga K "PrimesDiffer") "__init__") ("/claim/cut.py" : Str),
  decide (PySem.W.nsIn K mainGlobals "PrimesDiffer" = some (some (.ref (He.ga K "PrimesDiffer")))),
  cellB K (ccA K (He.ma K (He.ga K "PrimesDiffer") "__init__")) (He.ga K "PrimesDiffer"),
  decide (PySem.W.ks_superIn K (He.ga K "PrimesDiffer") (He.ga K "PrimesDiffer") "__init__" = some (some (.builtin "ValueError.__init__"))),
  decide (PySem.W.nsIn K cStatics "thirdparty.any" = some none),
  oexB K (He.ga K "PrimesDiffer"),
  errB K (He.ga K "PrimesDiffer") "PrimesDiffer",
  decide (PySem.W.findIn K (.ref (He.ga K "PrimesDiffer")) "code" = some none),
  decide (PySem.W.findIn K (.ref (He.ga K "PrimesDiffer")) "details" = some none),
  decide (PySem.W.findIn K (.ref (He.ga K "PrimesDiffer")) "__init__" = some (some (.ref (He.ma K (He.ga K "PrimesDiffer") "__init__")))),
  decide (PySem.W.typeIn K (.ref (He.ma K (He.ga K "PrimesDiffer") "__init__")) = some (.type "function")),
  kwTB K (He.ga K "relabel") "chosen"]
def exL (K : Fg) : List Bool := exL0 K ++ (exL1 K ++ (exL2 K ++ (exL3 K ++ (exL4 K ++ (exL5 K)))))
theorem all_t {l : PySem.W.OpenLaw} {w : World} {K : PySem.W.Frag} {h : Heap} {mg : Str → Option Value} {fa : Addr} (hfl : l.prog.main.file = ("/claim/cut.py" : Str)) (hsu : (l.prog.main.scope.names.lookup ("super" : Str)).isSome = false) (X : K.In h) (G : h.Ns mainGlobals mg) (hfa : mg "law" = some (.ref fa)) (c : SaysO fsL exL K) :
    ∃ fd : FuncData, (∀ (s : Shared) (v : Value), BindsTo s fd ⟨[v], []⟩ [("_law_script", v)]) ∧ ∀ base : Heap, K.In base → base.Ns mainGlobals mg → FnOk l.prog w K mg base CX0 24 fa fd ["_law_script"] (spLaw K) := by
  obtain ⟨oc0, od0, sl0, kV0, dc0, pm0, an0, cd0, ct0, l0, c0, k0⟩ := says_lk c 0 rfl
  have F0 := fun_mk (st := sNum) l0 c0 k0
  have b0 := F0.binds (ps := ["value"]) fun _ _ _ _ _ _ us hl => match us, hl with | [_], _ => rfl
  have g0 := PySem.W.mg_of X G (show PySem.W.nsIn K mainGlobals "is_number" = some (some (.ref (He.ga K "is_number"))) from of_decide_eq_true (says_ex c 0 rfl))
  obtain ⟨oc1, od1, sl1, kV1, dc1, pm1, an1, cd1, ct1, l1, c1, k1⟩ := says_lk c 1 rfl
  have F1 := fun_mk (st := sBel) l1 c1 k1
  have b1 := F1.binds (ps := ["value", "bound"]) fun _ _ _ _ _ _ us hl => match us, hl with | [_, _], _ => rfl
  have g1 := PySem.W.mg_of X G (show PySem.W.nsIn K mainGlobals "is_below" = some (some (.ref (He.ga K "is_below"))) from of_decide_eq_true (says_ex c 1 rfl))
  obtain ⟨oc2, od2, sl2, kV2, dc2, pm2, an2, cd2, ct2, l2, c2, k2⟩ := says_lk c 2 rfl
  have F2 := fun_mk (st := sChP) l2 c2 k2
  have b2 := F2.binds (ps := ["prime"]) fun _ _ _ _ _ _ us hl => match us, hl with | [_], _ => rfl
  have g2 := PySem.W.mg_of X G (show PySem.W.nsIn K mainGlobals "check_prime" = some (some (.ref (He.ga K "check_prime"))) from of_decide_eq_true (says_ex c 2 rfl))
  obtain ⟨oc3, od3, sl3, kV3, dc3, pm3, an3, cd3, ct3, l3, c3, k3⟩ := says_lk c 3 rfl
  have F3 := fun_mk (st := sCC) l3 c3 k3
  have b3 := F3.binds (ps := ["value", "least", "most"]) fun _ _ _ _ _ _ us hl => match us, hl with | [_, _, _], _ => rfl
  have g3 := PySem.W.mg_of X G (show PySem.W.nsIn K mainGlobals "check_count" = some (some (.ref (He.ga K "check_count"))) from of_decide_eq_true (says_ex c 3 rfl))
  obtain ⟨oc4, od4, sl4, kV4, dc4, pm4, an4, cd4, ct4, l4, c4, k4⟩ := says_lk c 4 rfl
  have F4 := fun_mk (st := sCoS) l4 c4 k4
  have b4 := F4.binds (ps := ["prime", "dials"]) fun _ _ _ _ _ _ us hl => match us, hl with | [_, _], _ => rfl
  have g4 := PySem.W.mg_of X G (show PySem.W.nsIn K mainGlobals "count_settings" = some (some (.ref (He.ga K "count_settings"))) from of_decide_eq_true (says_ex c 4 rfl))
  obtain ⟨oc5, od5, sl5, kV5, dc5, pm5, an5, cd5, ct5, l5, c5, k5⟩ := says_lk c 5 rfl
  have F5 := fun_mk (st := sIsS) l5 c5 k5
  have b5 := F5.binds (ps := ["prime", "value"]) fun _ _ _ _ _ _ us hl => match us, hl with | [_, _], _ => rfl
  have g5 := PySem.W.mg_of X G (show PySem.W.nsIn K mainGlobals "is_setting" = some (some (.ref (He.ga K "is_setting"))) from of_decide_eq_true (says_ex c 5 rfl))
  obtain ⟨oc6, od6, sl6, kV6, dc6, pm6, an6, cd6, ct6, l6, c6, k6⟩ := says_lk c 6 rfl
  have F6 := fun_mk (st := sChS) l6 c6 k6
  have b6 := F6.binds (ps := ["prime", "value"]) fun _ _ _ _ _ _ us hl => match us, hl with | [_, _], _ => rfl
  have g6 := PySem.W.mg_of X G (show PySem.W.nsIn K mainGlobals "check_setting" = some (some (.ref (He.ga K "check_setting"))) from of_decide_eq_true (says_ex c 6 rfl))
  obtain ⟨oc7, od7, sl7, kV7, dc7, pm7, an7, cd7, ct7, l7, c7, k7⟩ := says_lk c 7 rfl
  have F7 := fun_mk (st := sNoOf) l7 c7 k7
  have b7 := F7.binds (ps := ["prime", "setting"]) fun _ _ _ _ _ _ us hl => match us, hl with | [_, _], _ => rfl
  have g7 := PySem.W.mg_of X G (show PySem.W.nsIn K mainGlobals "number_of" = some (some (.ref (He.ga K "number_of"))) from of_decide_eq_true (says_ex c 7 rfl))
  obtain ⟨oc8, od8, sl8, kV8, dc8, pm8, an8, cd8, ct8, l8, c8, k8⟩ := says_lk c 8 rfl
  have F8 := fun_mk (st := sAre) l8 c8 k8
  have b8 := F8.binds (ps := ["turner", "value"]) fun _ _ _ _ _ _ us hl => match us, hl with | [_, _], _ => rfl
  have g8 := PySem.W.mg_of X G (show PySem.W.nsIn K mainGlobals "are_counts" = some (some (.ref (He.ga K "are_counts"))) from of_decide_eq_true (says_ex c 8 rfl))
  obtain ⟨oc9, od9, sl9, kV9, dc9, pm9, an9, cd9, ct9, l9, c9, k9⟩ := says_lk c 9 rfl
  have F9 := fun_mk (st := sChC) l9 c9 k9
  have b9 := F9.binds (ps := ["turner", "counts"]) fun _ _ _ _ _ _ us hl => match us, hl with | [_, _], _ => rfl
  have g9 := PySem.W.mg_of X G (show PySem.W.nsIn K mainGlobals "_check_counts" = some (some (.ref (He.ga K "_check_counts"))) from of_decide_eq_true (says_ex c 9 rfl))
  obtain ⟨oc10, od10, sl10, kV10, dc10, pm10, an10, cd10, ct10, l10, c10, k10⟩ := says_lk c 10 rfl
  have F10 := fun_mk (st := sFC) l10 c10 k10
  have b10 := F10.binds (ps := ["turner"]) fun _ _ _ _ _ _ us hl => match us, hl with | [_], _ => rfl
  have g10 := PySem.W.mg_of X G (show PySem.W.nsIn K mainGlobals "first_counts" = some (some (.ref (He.ga K "first_counts"))) from of_decide_eq_true (says_ex c 10 rfl))
  obtain ⟨oc11, od11, sl11, kV11, dc11, pm11, an11, cd11, ct11, l11, c11, k11⟩ := says_lk c 11 rfl
  have F11 := fun_mk (st := sNC) l11 c11 k11
  have b11 := F11.binds (ps := ["turner", "counts"]) fun _ _ _ _ _ _ us hl => match us, hl with | [_, _], _ => rfl
  have g11 := PySem.W.mg_of X G (show PySem.W.nsIn K mainGlobals "next_counts" = some (some (.ref (He.ga K "next_counts"))) from of_decide_eq_true (says_ex c 11 rfl))
  obtain ⟨oc12, od12, sl12, kV12, dc12, pm12, an12, cd12, ct12, l12, c12, k12⟩ := says_lk c 12 rfl
  have F12 := fun_mk (st := sTT) l12 c12 k12
  have b12 := F12.binds (ps := ["turner", "counts"]) fun _ _ _ _ _ _ us hl => match us, hl with | [_, _], _ => rfl
  have g12 := PySem.W.mg_of X G (show PySem.W.nsIn K mainGlobals "turn_total" = some (some (.ref (He.ga K "turn_total"))) from of_decide_eq_true (says_ex c 12 rfl))
  obtain ⟨oc13, od13, sl13, kV13, dc13, pm13, an13, cd13, ct13, l13, c13, k13⟩ := says_lk c 13 rfl
  have F13 := fun_mk (st := sTB) l13 c13 k13
  have b13 := F13.binds (ps := ["turner", "dials"]) fun _ _ _ _ _ _ us hl => match us, hl with | [_, _], _ => rfl
  have g13 := PySem.W.mg_of X G (show PySem.W.nsIn K mainGlobals "totals_below" = some (some (.ref (He.ga K "totals_below"))) from of_decide_eq_true (says_ex c 13 rfl))
  obtain ⟨oc14, od14, sl14, kV14, dc14, pm14, an14, cd14, ct14, l14, c14, k14⟩ := says_lk c 14 rfl
  have F14 := fun_mk (st := sTO) l14 c14 k14
  have b14 := F14.binds (ps := ["turner", "dials"]) fun _ _ _ _ _ _ us hl => match us, hl with | [_, _], _ => rfl
  have g14 := PySem.W.mg_of X G (show PySem.W.nsIn K mainGlobals "tables_of" = some (some (.ref (He.ga K "tables_of"))) from of_decide_eq_true (says_ex c 14 rfl))
  obtain ⟨oc15, od15, sl15, kV15, dc15, pm15, an15, cd15, ct15, l15, c15, k15⟩ := says_lk c 15 rfl
  have F15 := fun_mk (st := sIm) l15 c15 k15
  have b15 := F15.binds (ps := ["prime", "tables"]) fun _ _ _ _ _ _ us hl => match us, hl with | [_, _], _ => rfl
  have g15 := PySem.W.mg_of X G (show PySem.W.nsIn K mainGlobals "images" = some (some (.ref (He.ga K "images"))) from of_decide_eq_true (says_ex c 15 rfl))
  obtain ⟨oc16, od16, sl16, kV16, dc16, pm16, an16, cd16, ct16, l16, c16, k16⟩ := says_lk c 16 rfl
  have F16 := fun_mk (st := sIsT) l16 c16 k16
  have b16 := F16.binds (ps := ["prime", "value", "many"]) fun _ _ _ _ _ _ us hl => match us, hl with | [_, _, _], _ => rfl
  have g16 := PySem.W.mg_of X G (show PySem.W.nsIn K mainGlobals "_is_table" = some (some (.ref (He.ga K "_is_table"))) from of_decide_eq_true (says_ex c 16 rfl))
  obtain ⟨oc17, od17, sl17, kV17, dc17, pm17, an17, cd17, ct17, l17, c17, k17⟩ := says_lk c 17 rfl
  have F17 := fun_mk (st := sChT) l17 c17 k17
  have b17 := F17.binds (ps := ["prime", "tables"]) fun _ _ _ _ _ _ us hl => match us, hl with | [_, _], _ => rfl
  have g17 := PySem.W.mg_of X G (show PySem.W.nsIn K mainGlobals "_check_tables" = some (some (.ref (He.ga K "_check_tables"))) from of_decide_eq_true (says_ex c 17 rfl))
  obtain ⟨oc18, od18, sl18, kV18, dc18, pm18, an18, cd18, ct18, l18, c18, k18⟩ := says_lk c 18 rfl
  have F18 := fun_mk (st := sUT) l18 c18 k18
  have b18 := F18.binds (ps := ["prime", "table", "behind"]) fun _ _ _ _ _ _ us hl => match us, hl with | [_, _, _], _ => rfl
  have g18 := PySem.W.mg_of X G (show PySem.W.nsIn K mainGlobals "_undone_table" = some (some (.ref (He.ga K "_undone_table"))) from of_decide_eq_true (says_ex c 18 rfl))
  obtain ⟨oc19, od19, sl19, kV19, dc19, pm19, an19, cd19, ct19, l19, c19, k19⟩ := says_lk c 19 rfl
  have F19 := fun_mk (st := sChs2) l19 c19 k19
  have b19 := F19.binds (ps := ["prime", "chosen"]) fun _ _ _ _ _ _ us hl => match us, hl with | [_, _], _ => rfl
  have g19 := PySem.W.mg_of X G (show PySem.W.nsIn K mainGlobals "_check_chosen" = some (some (.ref (He.ga K "_check_chosen"))) from of_decide_eq_true (says_ex c 19 rfl))
  obtain ⟨oc20, od20, sl20, kV20, dc20, pm20, an20, cd20, ct20, l20, c20, k20⟩ := says_lk c 20 rfl
  have F20 := fun_mk (st := sCTo) l20 c20 k20
  have b20 := F20.binds (ps := ["one", "other", "dials"]) fun _ _ _ _ _ _ us hl => match us, hl with | [_, _, _], _ => rfl
  have g20 := PySem.W.mg_of X G (show PySem.W.nsIn K mainGlobals "_check_totals" = some (some (.ref (He.ga K "_check_totals"))) from of_decide_eq_true (says_ex c 20 rfl))
  obtain ⟨oc21, od21, sl21, kV21, dc21, pm21, an21, cd21, ct21, l21, c21, k21⟩ := says_lk c 21 rfl
  have F21 := fun_mk (st := sTbw) l21 c21 k21
  have b21 := F21.binds (ps := ["prime", "ones", "others", "first", "size"]) fun _ _ _ _ _ _ us hl => match us, hl with | [_, _, _, _, _], _ => rfl
  have g21 := PySem.W.mg_of X G (show PySem.W.nsIn K mainGlobals "_table_between" = some (some (.ref (He.ga K "_table_between"))) from of_decide_eq_true (says_ex c 21 rfl))
  obtain ⟨oc22, od22, sl22, kV22, dc22, pm22, an22, cd22, ct22, l22, c22, k22⟩ := says_lk c 22 rfl
  have F22 := fun_mk (st := sRl) l22 c22 k22
  have g22 := PySem.W.mg_of X G (show PySem.W.nsIn K mainGlobals "relabel" = some (some (.ref (He.ga K "relabel"))) from of_decide_eq_true (says_ex c 22 rfl))
  obtain ⟨oc23, od23, sl23, kV23, dc23, pm23, an23, cd23, ct23, l23, c23, k23⟩ := says_lk c 23 rfl
  have F23 := fun_mk (st := sCp) l23 c23 k23
  have b23 := F23.binds (ps := ["value"]) fun _ _ _ _ _ _ us hl => match us, hl with | [_], _ => rfl
  have g23 := PySem.W.mg_of X G (show PySem.W.nsIn K mainGlobals "copied" = some (some (.ref (He.ga K "copied"))) from of_decide_eq_true (says_ex c 23 rfl))
  obtain ⟨oc24, od24, sl24, kV24, dc24, pm24, an24, cd24, ct24, l24, c24, k24⟩ := says_lk c 24 rfl
  have F24 := fun_mk (st := sIsSt) l24 c24 k24
  have b24 := F24.binds (ps := ["prime", "value", "many"]) fun _ _ _ _ _ _ us hl => match us, hl with | [_, _, _], _ => rfl
  have g24 := PySem.W.mg_of X G (show PySem.W.nsIn K mainGlobals "_is_state" = some (some (.ref (He.ga K "_is_state"))) from of_decide_eq_true (says_ex c 24 rfl))
  obtain ⟨oc25, od25, sl25, kV25, dc25, pm25, an25, cd25, ct25, l25, c25, k25⟩ := says_lk c 25 rfl
  have F25 := fun_mk (st := sFirst) l25 c25 k25
  have b25 := F25.binds (ps := ["prime", "states"]) fun _ _ _ _ _ _ us hl => match us, hl with | [_, _], _ => rfl
  have g25 := PySem.W.mg_of X G (show PySem.W.nsIn K mainGlobals "_first_wrong" = some (some (.ref (He.ga K "_first_wrong"))) from of_decide_eq_true (says_ex c 25 rfl))
  obtain ⟨oc26, od26, sl26, kV26, dc26, pm26, an26, cd26, ct26, l26, c26, k26⟩ := says_lk c 26 rfl
  have F26 := fun_mk (st := sBag) l26 c26 k26
  have b26 := F26.binds (ps := ["_law_script"]) fun _ _ _ _ _ _ us hl => match us, hl with | [_], _ => rfl
  have g26 := PySem.W.mg_of X G (show PySem.W.nsIn K mainGlobals "_law_bag" = some (some (.ref (He.ga K "_law_bag"))) from of_decide_eq_true (says_ex c 26 rfl))
  obtain ⟨oc27, od27, sl27, kV27, dc27, pm27, an27, cd27, ct27, l27, c27, k27⟩ := says_lk c 27 rfl
  have F27 := fun_mk (st := sPull) l27 c27 k27
  have b27 := F27.binds (ps := ["_law_bag_here", "_law_many"]) fun _ _ _ _ _ _ us hl => match us, hl with | [_, _], _ => rfl
  have g27 := PySem.W.mg_of X G (show PySem.W.nsIn K mainGlobals "_law_pull" = some (some (.ref (He.ga K "_law_pull"))) from of_decide_eq_true (says_ex c 27 rfl))
  obtain ⟨oc28, od28, sl28, kV28, dc28, pm28, an28, cd28, ct28, l28, c28, k28⟩ := says_lk c 28 rfl
  have F28 := fun_mk (st := sOf) l28 c28 k28
  have b28 := F28.binds (ps := ["_law_bag_here", "_law_some"]) fun _ _ _ _ _ _ us hl => match us, hl with | [_, _], _ => rfl
  have g28 := PySem.W.mg_of X G (show PySem.W.nsIn K mainGlobals "_law_of" = some (some (.ref (He.ga K "_law_of"))) from of_decide_eq_true (says_ex c 28 rfl))
  obtain ⟨oc29, od29, sl29, kV29, dc29, pm29, an29, cd29, ct29, l29, c29, k29⟩ := says_lk c 29 rfl
  have F29 := fun_mk (st := sSame) l29 c29 k29
  have b29 := F29.binds (ps := ["_law_found", "_law_due"]) fun _ _ _ _ _ _ us hl => match us, hl with | [_, _], _ => rfl
  have g29 := PySem.W.mg_of X G (show PySem.W.nsIn K mainGlobals "_law_same" = some (some (.ref (He.ga K "_law_same"))) from of_decide_eq_true (says_ex c 29 rfl))
  obtain ⟨oc30, od30, sl30, kV30, dc30, pm30, an30, cd30, ct30, l30, c30, k30⟩ := says_lk c 30 rfl
  have F30 := fun_mk (st := sPrime) l30 c30 k30
  have b30 := F30.binds (ps := ["_law_bag_here"]) fun _ _ _ _ _ _ us hl => match us, hl with | [_], _ => rfl
  have g30 := PySem.W.mg_of X G (show PySem.W.nsIn K mainGlobals "_law_prime" = some (some (.ref (He.ga K "_law_prime"))) from of_decide_eq_true (says_ex c 30 rfl))
  obtain ⟨oc31, od31, sl31, kV31, dc31, pm31, an31, cd31, ct31, l31, c31, k31⟩ := says_lk c 31 rfl
  have F31 := fun_mk (st := sFigs) l31 c31 k31
  have b31 := F31.binds (ps := ["_law_bag_here", "_law_p", "_law_many"]) fun _ _ _ _ _ _ us hl => match us, hl with | [_, _, _], _ => rfl
  have g31 := PySem.W.mg_of X G (show PySem.W.nsIn K mainGlobals "_law_figures" = some (some (.ref (He.ga K "_law_figures"))) from of_decide_eq_true (says_ex c 31 rfl))
  obtain ⟨oc32, od32, sl32, kV32, dc32, pm32, an32, cd32, ct32, l32, c32, k32⟩ := says_lk c 32 rfl
  have F32 := fun_mk (st := sPlain) l32 c32 k32
  have b32 := F32.binds (ps := ["_law_bag_here", "_law_p", "_law_top"]) fun _ _ _ _ _ _ us hl => match us, hl with | [_, _, _], _ => rfl
  have g32 := PySem.W.mg_of X G (show PySem.W.nsIn K mainGlobals "_law_plain" = some (some (.ref (He.ga K "_law_plain"))) from of_decide_eq_true (says_ex c 32 rfl))
  obtain ⟨oc33, od33, sl33, kV33, dc33, pm33, an33, cd33, ct33, l33, c33, k33⟩ := says_lk c 33 rfl
  have F33 := fun_mk (st := sMade) l33 c33 k33
  have b33 := F33.binds (ps := ["_law_m"]) fun _ _ _ _ _ _ us hl => match us, hl with | [_], _ => rfl
  have g33 := PySem.W.mg_of X G (show PySem.W.nsIn K mainGlobals "_law_made" = some (some (.ref (He.ga K "_law_made"))) from of_decide_eq_true (says_ex c 33 rfl))
  obtain ⟨oc34, od34, sl34, kV34, dc34, pm34, an34, cd34, ct34, l34, c34, k34⟩ := says_lk c 34 rfl
  have F34 := fun_mk (st := sWay) l34 c34 k34
  have b34 := F34.binds (ps := ["_law_m", "_law_row"]) fun _ _ _ _ _ _ us hl => match us, hl with | [_, _], _ => rfl
  have g34 := PySem.W.mg_of X G (show PySem.W.nsIn K mainGlobals "_law_way" = some (some (.ref (He.ga K "_law_way"))) from of_decide_eq_true (says_ex c 34 rfl))
  obtain ⟨oc35, od35, sl35, kV35, dc35, pm35, an35, cd35, ct35, l35, c35, k35⟩ := says_lk c 35 rfl
  have F35 := fun_mk (st := sBeh) l35 c35 k35
  have b35 := F35.binds (ps := ["_law_m", "_law_row"]) fun _ _ _ _ _ _ us hl => match us, hl with | [_, _], _ => rfl
  have g35 := PySem.W.mg_of X G (show PySem.W.nsIn K mainGlobals "_law_behind" = some (some (.ref (He.ga K "_law_behind"))) from of_decide_eq_true (says_ex c 35 rfl))
  obtain ⟨oc36, od36, sl36, kV36, dc36, pm36, an36, cd36, ct36, l36, c36, k36⟩ := says_lk c 36 rfl
  have F36 := fun_mk (st := sAll) l36 c36 k36
  have b36 := F36.binds (ps := ["_law_p", "_law_many"]) fun _ _ _ _ _ _ us hl => match us, hl with | [_, _], _ => rfl
  have g36 := PySem.W.mg_of X G (show PySem.W.nsIn K mainGlobals "_law_all_rows" = some (some (.ref (He.ga K "_law_all_rows"))) from of_decide_eq_true (says_ex c 36 rfl))
  obtain ⟨oc37, od37, sl37, kV37, dc37, pm37, an37, cd37, ct37, l37, c37, k37⟩ := says_lk c 37 rfl
  have F37 := fun_mk (st := sLV) l37 c37 k37
  have b37 := F37.binds (ps := ["_law_p", "_law_row"]) fun _ _ _ _ _ _ us hl => match us, hl with | [_, _], _ => rfl
  have g37 := PySem.W.mg_of X G (show PySem.W.nsIn K mainGlobals "_law_value" = some (some (.ref (He.ga K "_law_value"))) from of_decide_eq_true (says_ex c 37 rfl))
  obtain ⟨oc38, od38, sl38, kV38, dc38, pm38, an38, cd38, ct38, l38, c38, k38⟩ := says_lk c 38 rfl
  have F38 := fun_mk (st := sLT) l38 c38 k38
  have b38 := F38.binds (ps := ["_law_p", "_law_many"]) fun _ _ _ _ _ _ us hl => match us, hl with | [_, _], _ => rfl
  have g38 := PySem.W.mg_of X G (show PySem.W.nsIn K mainGlobals "_law_times" = some (some (.ref (He.ga K "_law_times"))) from of_decide_eq_true (says_ex c 38 rfl))
  obtain ⟨oc39, od39, sl39, kV39, dc39, pm39, an39, cd39, ct39, l39, c39, k39⟩ := says_lk c 39 rfl
  have F39 := fun_mk (st := sFew) l39 c39 k39
  have b39 := F39.binds (ps := ["_law_p"]) fun _ _ _ _ _ _ us hl => match us, hl with | [_], _ => rfl
  have g39 := PySem.W.mg_of X G (show PySem.W.nsIn K mainGlobals "_law_few" = some (some (.ref (He.ga K "_law_few"))) from of_decide_eq_true (says_ex c 39 rfl))
  obtain ⟨oc40, od40, sl40, kV40, dc40, pm40, an40, cd40, ct40, l40, c40, k40⟩ := says_lk c 40 rfl
  have F40 := fun_mk (st := sLUnd) l40 c40 k40
  have b40 := F40.binds (ps := ["_law_m"]) fun _ _ _ _ _ _ us hl => match us, hl with | [_], _ => rfl
  have g40 := PySem.W.mg_of X G (show PySem.W.nsIn K mainGlobals "_law_undone" = some (some (.ref (He.ga K "_law_undone"))) from of_decide_eq_true (says_ex c 40 rfl))
  obtain ⟨oc41, od41, sl41, kV41, dc41, pm41, an41, cd41, ct41, l41, c41, k41⟩ := says_lk c 41 rfl
  have F41 := fun_mk (st := sJoin) l41 c41 k41
  have b41 := F41.binds (ps := ["_law_m", "_law_n"]) fun _ _ _ _ _ _ us hl => match us, hl with | [_, _], _ => rfl
  have g41 := PySem.W.mg_of X G (show PySem.W.nsIn K mainGlobals "_law_joined" = some (some (.ref (He.ga K "_law_joined"))) from of_decide_eq_true (says_ex c 41 rfl))
  obtain ⟨oc42, od42, sl42, kV42, dc42, pm42, an42, cd42, ct42, l42, c42, k42⟩ := says_lk c 42 rfl
  have F42 := fun_mk (st := sOd) l42 c42 k42
  have b42 := F42.binds (ps := ["_law_p"]) fun _ _ _ _ _ _ us hl => match us, hl with | [_], _ => rfl
  have g42 := PySem.W.mg_of X G (show PySem.W.nsIn K mainGlobals "_law_odometer" = some (some (.ref (He.ga K "_law_odometer"))) from of_decide_eq_true (says_ex c 42 rfl))
  obtain ⟨oc43, od43, sl43, kV43, dc43, pm43, an43, cd43, ct43, l43, c43, k43⟩ := says_lk c 43 rfl
  have F43 := fun_mk (st := sSg) l43 c43 k43
  have b43 := F43.binds (ps := ["_law_bag_here", "_law_p"]) fun _ _ _ _ _ _ us hl => match us, hl with | [_, _], _ => rfl
  have g43 := PySem.W.mg_of X G (show PySem.W.nsIn K mainGlobals "_law_single" = some (some (.ref (He.ga K "_law_single"))) from of_decide_eq_true (says_ex c 43 rfl))
  obtain ⟨oc44, od44, sl44, kV44, dc44, pm44, an44, cd44, ct44, l44, c44, k44⟩ := says_lk c 44 rfl
  have F44 := fun_mk (st := sLNm) l44 c44 k44
  have b44 := F44.binds (ps := ["_law_p", "_law_some", "_law_row"]) fun _ _ _ _ _ _ us hl => match us, hl with | [_, _, _], _ => rfl
  have g44 := PySem.W.mg_of X G (show PySem.W.nsIn K mainGlobals "_law_named" = some (some (.ref (He.ga K "_law_named"))) from of_decide_eq_true (says_ex c 44 rfl))
  obtain ⟨oc45, od45, sl45, kV45, dc45, pm45, an45, cd45, ct45, l45, c45, k45⟩ := says_lk c 45 rfl
  have F45 := fun_mk (st := sLaw) l45 c45 k45
  have b45 := F45.binds (ps := ["_law_script"]) fun _ _ _ _ _ _ us hl => match us, hl with | [_], _ => rfl
  have g45 := PySem.W.mg_of X G (show PySem.W.nsIn K mainGlobals "law" = some (some (.ref (He.ga K "law"))) from of_decide_eq_true (says_ex c 45 rfl))
  have B : Bn mg := ⟨PySem.W.mg_none_of X G (show PySem.W.nsIn K mainGlobals "len" = some none from of_decide_eq_true (says_ex c 46 rfl)), PySem.W.mg_none_of X G (show PySem.W.nsIn K mainGlobals "int" = some none from of_decide_eq_true (says_ex c 47 rfl)), PySem.W.mg_none_of X G (show PySem.W.nsIn K mainGlobals "abs" = some none from of_decide_eq_true (says_ex c 48 rfl)), PySem.W.mg_none_of X G (show PySem.W.nsIn K mainGlobals "list" = some none from of_decide_eq_true (says_ex c 49 rfl)), PySem.W.mg_none_of X G (show PySem.W.nsIn K mainGlobals "tuple" = some none from of_decide_eq_true (says_ex c 50 rfl)), PySem.W.mg_none_of X G (show PySem.W.nsIn K mainGlobals "range" = some none from of_decide_eq_true (says_ex c 51 rfl)), PySem.W.mg_none_of X G (show PySem.W.nsIn K mainGlobals "isinstance" = some none from of_decide_eq_true (says_ex c 52 rfl)), PySem.W.mg_none_of X G (show PySem.W.nsIn K mainGlobals "all" = some none from of_decide_eq_true (says_ex c 53 rfl)), PySem.W.mg_none_of X G (show PySem.W.nsIn K mainGlobals "zip" = some none from of_decide_eq_true (says_ex c 54 rfl)), PySem.W.mg_none_of X G (show PySem.W.nsIn K mainGlobals "enumerate" = some none from of_decide_eq_true (says_ex c 55 rfl)), PySem.W.mg_none_of X G (show PySem.W.nsIn K mainGlobals "bool" = some none from of_decide_eq_true (says_ex c 56 rfl))⟩
  have z_str := PySem.W.mg_none_of X G (show PySem.W.nsIn K mainGlobals "str" = some none from of_decide_eq_true (says_ex c 57 rfl))
  have z_super := PySem.W.mg_none_of X G (show PySem.W.nsIn K mainGlobals "super" = some none from of_decide_eq_true (says_ex c 58 rfl))
  have z_sum := PySem.W.mg_none_of X G (show PySem.W.nsIn K mainGlobals "sum" = some none from of_decide_eq_true (says_ex c 59 rfl))
  have z_reversed := PySem.W.mg_none_of X G (show PySem.W.nsIn K mainGlobals "reversed" = some none from of_decide_eq_true (says_ex c 60 rfl))
  obtain ⟨tDi, zD⟩ := intB_ok (says_ex c 61 rfl)
  obtain ⟨dPx, nPx, sPx, tPa, tPb, tPc, tPd, lP⟩ := tup4_ok (says_ex c 62 rfl)
  have gv : Gv K mg (He.ga K "PRIMES") tDi := ⟨PySem.W.mg_of X G (show PySem.W.nsIn K mainGlobals "PRIMES" = some (some (.ref (He.ga K "PRIMES"))) from of_decide_eq_true (says_ex c 63 rfl)), fun H => .inr ⟨_, _, _, lP, rfl, rfl, by show 4 ≤ sizeLine; decide, .cons ⟨_, rfl⟩ (.cons ⟨_, rfl⟩ (.cons ⟨_, rfl⟩ (.cons ⟨_, rfl⟩ .nil)))⟩, PySem.W.mg_of X G zD⟩
  obtain ⟨tI_MOST_SETTINGS, zI_MOST_SETTINGS⟩ := intB_ok (says_ex c 64 rfl)
  have hI_MOST_SETTINGS := PySem.W.mg_of X G zI_MOST_SETTINGS
  have aC := PySem.W.mg_of X G (show PySem.W.nsIn K mainGlobals "Turner" = some (some (.ref (He.ga K "Turner"))) from of_decide_eq_true (says_ex c 65 rfl))
  obtain ⟨oc46, od46, sl46, kV46, dc46, pm46, an46, cd46, ct46, l46, c46, k46⟩ := says_lk c 46 rfl
  have Fm_states := fun_mk (st := sStates) l46 c46 k46
  have km_states := k46
  have am_states := (show PySem.W.findIn K (.ref (He.ga K "Turner")) "states" = some (some (.ref (He.ma K (He.ga K "Turner") "states"))) from of_decide_eq_true (says_ex c 66 rfl))
  have im_states := (says_ex c 67 rfl)
  have bm_states := Fm_states.binds (ps := ["self"]) fun _ _ _ _ _ _ us hl => match us, hl with | [_], _ => rfl
  obtain ⟨oc47, od47, sl47, kV47, dc47, pm47, an47, cd47, ct47, l47, c47, k47⟩ := says_lk c 47 rfl
  have Fm_len := fun_mk (st := sLen) l47 c47 k47
  have km_len := k47
  have am_len := (show PySem.W.findIn K (.ref (He.ga K "Turner")) "__len__" = some (some (.ref (He.ma K (He.ga K "Turner") "__len__"))) from of_decide_eq_true (says_ex c 68 rfl))
  have im_len := (says_ex c 69 rfl)
  have bm_len := Fm_len.binds (ps := ["self"]) fun _ _ _ _ _ _ us hl => match us, hl with | [_], _ => rfl
  obtain ⟨oc48, od48, sl48, kV48, dc48, pm48, an48, cd48, ct48, lp_prime, cp_prime, kp_prime⟩ := says_lk c 48 rfl
  have Fp_prime := fun_mk (st := sPrm) lp_prime cp_prime kp_prime
  have bp_prime := Fp_prime.binds (ps := ["self"]) fun _ _ _ _ _ _ us hl => match us, hl with | [_], _ => rfl
  have ap_prime := (show PySem.W.findIn K (.ref (He.ga K "Turner")) "prime" = some (some (.ref (He.ma K (He.ga K "Turner") "prime"))) from of_decide_eq_true (says_ex c 70 rfl))
  have gp_prime := (show PySem.W.specialIn K (.ref (He.ma K (He.ga K "Turner") "prime")) "__get__" = some (some (.builtin "property.__get__")) from of_decide_eq_true (says_ex c 71 rfl))
  have tp_prime := (show PySem.W.takesIn K (.ref (He.ma K (He.ga K "Turner") "prime")) = some true from of_decide_eq_true (says_ex c 72 rfl))
  obtain ⟨rr_prime, rp_prime⟩ := recB_ok (says_ex c 73 rfl)
  obtain ⟨oc49, od49, sl49, kV49, dc49, pm49, an49, cd49, ct49, lp_start, cp_start, kp_start⟩ := says_lk c 49 rfl
  have Fp_start := fun_mk (st := sStt) lp_start cp_start kp_start
  have bp_start := Fp_start.binds (ps := ["self"]) fun _ _ _ _ _ _ us hl => match us, hl with | [_], _ => rfl
  have ap_start := (show PySem.W.findIn K (.ref (He.ga K "Turner")) "start" = some (some (.ref (He.ma K (He.ga K "Turner") "start"))) from of_decide_eq_true (says_ex c 74 rfl))
  have gp_start := (show PySem.W.specialIn K (.ref (He.ma K (He.ga K "Turner") "start")) "__get__" = some (some (.builtin "property.__get__")) from of_decide_eq_true (says_ex c 75 rfl))
  have tp_start := (show PySem.W.takesIn K (.ref (He.ma K (He.ga K "Turner") "start")) = some true from of_decide_eq_true (says_ex c 76 rfl))
  obtain ⟨rr_start, rp_start⟩ := recB_ok (says_ex c 77 rfl)
  obtain ⟨ocI, odI, slI, dI, dcI, pmI, anI, cdI, ctI, tI, lI, cI, kI, zS⟩ := says_lkw c 50 rfl
  have aI := (show PySem.W.findIn K (.ref (He.ga K "Turner")) "__init__" = some (some (.ref (He.ma K (He.ga K "Turner") "__init__"))) from of_decide_eq_true (says_ex c 78 rfl))
  have iI := (says_ex c 79 rfl)
  have FI : FunD K "__init__" "Turner.__init__" (defArgs sInit) (defBody sInit) (defScope sInit) [] [("start", .int 0)] (He.ma K (He.ga K "Turner") "__init__") _ := ⟨⟨ocI, odI, .none, .ref dI, dcI, pmI, anI, cdI, ctI, slI, rfl, lI, cI, .inl ⟨rfl, rfl⟩, .inr ⟨dI, rfl, fun q hq => by rw [List.mem_singleton.mp hq]; exact ⟨_, zS, tI, rfl⟩⟩⟩, kI⟩
  obtain ⟨mv, KB⟩ := FI.kbinds0 (ps := ["self", "prime", "states", "start"]) 3 ["start"] [] (fun us mv ws => us ++ ws) (by simp) (fun q hq => by cases hq) (fun r1 _ r2 => r1.append r2)
    (fun D doc pm an cdv ct us mv ws l1 l2 l3 => match us, mv, ws, l1, l2, l3 with | [_, _, _], [], [_], _, _, _ => rfl)
  obtain ⟨ds, VD, BD⟩ := FI.binds0 (ps := ["self", "prime", "states", "start"]) 3 (by simp) rfl (fun D doc pm an cdv ct us ks l1 l2 => match us, ks, l1, l2 with | [_, _, _], [_], _, _ => ⟨_, _, _, _, _, _, rfl, rfl, rfl⟩)
  have Tcl : Tc K (He.ga K "Turner") := ⟨⟨(says_ex c 80 rfl), (says_ex c 81 rfl), (says_ex c 82 rfl), (show PySem.W.findIn K (.ref (He.ga K "Turner")) "__setattr__" = some (some (.builtin "object.__setattr__")) from of_decide_eq_true (says_ex c 83 rfl))⟩, (show PySem.W.findIn K (.ref (He.ga K "Turner")) "_prime" = some none from of_decide_eq_true (says_ex c 84 rfl)), (show PySem.W.findIn K (.ref (He.ga K "Turner")) "_states" = some none from of_decide_eq_true (says_ex c 85 rfl)), (show PySem.W.findIn K (.ref (He.ga K "Turner")) "_start" = some none from of_decide_eq_true (says_ex c 86 rfl))⟩
  have rd : ClX.CRead K (He.ga K "Turner") (.type "type") := ⟨(says_ex c 87 rfl), (show PySem.W.specialIn K (.ref (He.ga K "Turner")) "__getattribute__" = some (some (.builtin "type.__getattribute__")) from of_decide_eq_true (says_ex c 88 rfl))⟩
  obtain ⟨tM, mC⟩ := conB_ok (says_ex c 89 rfl)
  have cv : Cv K mg (He.ga K "Turner") (.type "type") (.int 240 tM) := ⟨aC, rd, ⟨mC, tM, rfl⟩⟩
  have Mt : Mk K (He.ga K "Turner") (He.ma K (He.ga K "Turner") "__init__") := ⟨(says_ex c 90 rfl), aI, iI, (says_ex c 91 rfl)⟩
  have aC_Relabelling := PySem.W.mg_of X G (show PySem.W.nsIn K mainGlobals "Relabelling" = some (some (.ref (He.ga K "Relabelling"))) from of_decide_eq_true (says_ex c 92 rfl))
  obtain ⟨ocm_Relabelling_tables, odm_Relabelling_tables, slm_Relabelling_tables, kVm_Relabelling_tables, dcm_Relabelling_tables, pmm_Relabelling_tables, anm_Relabelling_tables, cdm_Relabelling_tables, ctm_Relabelling_tables, lm_Relabelling_tables, cm_Relabelling_tables, km_Relabelling_tables⟩ := says_lk c 51 rfl
  have Fm_Relabelling_tables := fun_mk (st := sRTb) lm_Relabelling_tables cm_Relabelling_tables km_Relabelling_tables
  have bm_Relabelling_tables := Fm_Relabelling_tables.binds (ps := ["self"]) fun _ _ _ _ _ _ us hl => match us, hl with | [_], _ => rfl
  have am_Relabelling_tables := (show PySem.W.findIn K (.ref (He.ga K "Relabelling")) "tables" = some (some (.ref (He.ma K (He.ga K "Relabelling") "tables"))) from of_decide_eq_true (says_ex c 93 rfl))
  have im_Relabelling_tables := (says_ex c 94 rfl)
  obtain ⟨ocm_Relabelling_eq, odm_Relabelling_eq, slm_Relabelling_eq, kVm_Relabelling_eq, dcm_Relabelling_eq, pmm_Relabelling_eq, anm_Relabelling_eq, cdm_Relabelling_eq, ctm_Relabelling_eq, lm_Relabelling_eq, cm_Relabelling_eq, km_Relabelling_eq⟩ := says_lk c 52 rfl
  have Fm_Relabelling_eq := fun_mk (st := sREq) lm_Relabelling_eq cm_Relabelling_eq km_Relabelling_eq
  have bm_Relabelling_eq := Fm_Relabelling_eq.binds (ps := ["self", "other"]) fun _ _ _ _ _ _ us hl => match us, hl with | [_, _], _ => rfl
  have am_Relabelling_eq := (show PySem.W.findIn K (.ref (He.ga K "Relabelling")) "__eq__" = some (some (.ref (He.ma K (He.ga K "Relabelling") "__eq__"))) from of_decide_eq_true (says_ex c 95 rfl))
  have im_Relabelling_eq := (says_ex c 96 rfl)
  obtain ⟨ocm_Relabelling_inverse, odm_Relabelling_inverse, slm_Relabelling_inverse, kVm_Relabelling_inverse, dcm_Relabelling_inverse, pmm_Relabelling_inverse, anm_Relabelling_inverse, cdm_Relabelling_inverse, ctm_Relabelling_inverse, lm_Relabelling_inverse, cm_Relabelling_inverse, km_Relabelling_inverse⟩ := says_lk c 53 rfl
  have Fm_Relabelling_inverse := fun_mk (st := sRInv) lm_Relabelling_inverse cm_Relabelling_inverse km_Relabelling_inverse
  have bm_Relabelling_inverse := Fm_Relabelling_inverse.binds (ps := ["self"]) fun _ _ _ _ _ _ us hl => match us, hl with | [_], _ => rfl
  have am_Relabelling_inverse := (show PySem.W.findIn K (.ref (He.ga K "Relabelling")) "inverse" = some (some (.ref (He.ma K (He.ga K "Relabelling") "inverse"))) from of_decide_eq_true (says_ex c 97 rfl))
  have im_Relabelling_inverse := (says_ex c 98 rfl)
  obtain ⟨ocm_Relabelling_leads, odm_Relabelling_leads, slm_Relabelling_leads, kVm_Relabelling_leads, dcm_Relabelling_leads, pmm_Relabelling_leads, anm_Relabelling_leads, cdm_Relabelling_leads, ctm_Relabelling_leads, lm_Relabelling_leads, cm_Relabelling_leads, km_Relabelling_leads⟩ := says_lk c 54 rfl
  have Fm_Relabelling_leads := fun_mk (st := sLd) lm_Relabelling_leads cm_Relabelling_leads km_Relabelling_leads
  have bm_Relabelling_leads := Fm_Relabelling_leads.binds (ps := ["self", "one", "other"]) fun _ _ _ _ _ _ us hl => match us, hl with | [_, _, _], _ => rfl
  have am_Relabelling_leads := (show PySem.W.findIn K (.ref (He.ga K "Relabelling")) "leads" = some (some (.ref (He.ma K (He.ga K "Relabelling") "leads"))) from of_decide_eq_true (says_ex c 99 rfl))
  have im_Relabelling_leads := (says_ex c 100 rfl)
  obtain ⟨ocm_Relabelling_behind, odm_Relabelling_behind, slm_Relabelling_behind, kVm_Relabelling_behind, dcm_Relabelling_behind, pmm_Relabelling_behind, anm_Relabelling_behind, cdm_Relabelling_behind, ctm_Relabelling_behind, lm_Relabelling_behind, cm_Relabelling_behind, km_Relabelling_behind⟩ := says_lk c 55 rfl
  have Fm_Relabelling_behind := fun_mk (st := sRBh) lm_Relabelling_behind cm_Relabelling_behind km_Relabelling_behind
  have bm_Relabelling_behind := Fm_Relabelling_behind.binds (ps := ["self", "dials"]) fun _ _ _ _ _ _ us hl => match us, hl with | [_, _], _ => rfl
  have am_Relabelling_behind := (show PySem.W.findIn K (.ref (He.ga K "Relabelling")) "_behind" = some (some (.ref (He.ma K (He.ga K "Relabelling") "_behind"))) from of_decide_eq_true (says_ex c 101 rfl))
  have im_Relabelling_behind := (says_ex c 102 rfl)
  obtain ⟨ocp_Relabelling_prime, odp_Relabelling_prime, slp_Relabelling_prime, kVp_Relabelling_prime, dcp_Relabelling_prime, pmp_Relabelling_prime, anp_Relabelling_prime, cdp_Relabelling_prime, ctp_Relabelling_prime, lp_Relabelling_prime, cp_Relabelling_prime, kp_Relabelling_prime⟩ := says_lk c 56 rfl
  have Fp_Relabelling_prime := fun_mk (st := sRPr) lp_Relabelling_prime cp_Relabelling_prime kp_Relabelling_prime
  have bp_Relabelling_prime := Fp_Relabelling_prime.binds (ps := ["self"]) fun _ _ _ _ _ _ us hl => match us, hl with | [_], _ => rfl
  have ap_Relabelling_prime := (show PySem.W.findIn K (.ref (He.ga K "Relabelling")) "prime" = some (some (.ref (He.ma K (He.ga K "Relabelling") "prime"))) from of_decide_eq_true (says_ex c 103 rfl))
  have hp_Relabelling_prime := (show PySem.W.specialIn K (.ref (He.ma K (He.ga K "Relabelling") "prime")) "__get__" = some (some (.builtin "property.__get__")) from of_decide_eq_true (says_ex c 104 rfl))
  have tp_Relabelling_prime := (show PySem.W.takesIn K (.ref (He.ma K (He.ga K "Relabelling") "prime")) = some true from of_decide_eq_true (says_ex c 105 rfl))
  obtain ⟨rrp_Relabelling_prime, rp_Relabelling_prime⟩ := recB_ok (says_ex c 106 rfl)
  have Op_Relabelling_prime : PropOf K (He.ga K "Relabelling") "prime" (He.ma K (He.ga K "Relabelling") "prime") (paA K "property" (He.ma K (He.ga K "Relabelling") "prime")) := ⟨ap_Relabelling_prime, hp_Relabelling_prime, tp_Relabelling_prime, _, rp_Relabelling_prime⟩
  obtain ⟨ocp_Relabelling_dials, odp_Relabelling_dials, slp_Relabelling_dials, kVp_Relabelling_dials, dcp_Relabelling_dials, pmp_Relabelling_dials, anp_Relabelling_dials, cdp_Relabelling_dials, ctp_Relabelling_dials, lp_Relabelling_dials, cp_Relabelling_dials, kp_Relabelling_dials⟩ := says_lk c 57 rfl
  have Fp_Relabelling_dials := fun_mk (st := sRDi) lp_Relabelling_dials cp_Relabelling_dials kp_Relabelling_dials
  have bp_Relabelling_dials := Fp_Relabelling_dials.binds (ps := ["self"]) fun _ _ _ _ _ _ us hl => match us, hl with | [_], _ => rfl
  have ap_Relabelling_dials := (show PySem.W.findIn K (.ref (He.ga K "Relabelling")) "dials" = some (some (.ref (He.ma K (He.ga K "Relabelling") "dials"))) from of_decide_eq_true (says_ex c 107 rfl))
  have hp_Relabelling_dials := (show PySem.W.specialIn K (.ref (He.ma K (He.ga K "Relabelling") "dials")) "__get__" = some (some (.builtin "property.__get__")) from of_decide_eq_true (says_ex c 108 rfl))
  have tp_Relabelling_dials := (show PySem.W.takesIn K (.ref (He.ma K (He.ga K "Relabelling") "dials")) = some true from of_decide_eq_true (says_ex c 109 rfl))
  obtain ⟨rrp_Relabelling_dials, rp_Relabelling_dials⟩ := recB_ok (says_ex c 110 rfl)
  have Op_Relabelling_dials : PropOf K (He.ga K "Relabelling") "dials" (He.ma K (He.ga K "Relabelling") "dials") (paA K "property" (He.ma K (He.ga K "Relabelling") "dials")) := ⟨ap_Relabelling_dials, hp_Relabelling_dials, tp_Relabelling_dials, _, rp_Relabelling_dials⟩
  obtain ⟨ocI_Relabelling, odI_Relabelling, slI_Relabelling, kVI_Relabelling, dcI_Relabelling, pmI_Relabelling, anI_Relabelling, cdI_Relabelling, ctI_Relabelling, lI_Relabelling, cI_Relabelling, kI_Relabelling⟩ := says_lk c 58 rfl
  have FI_Relabelling := fun_mk (st := sRIn) lI_Relabelling cI_Relabelling kI_Relabelling
  have bI_Relabelling := FI_Relabelling.binds (ps := ["self", "prime", "tables"]) fun _ _ _ _ _ _ us hl => match us, hl with | [_, _, _], _ => rfl
  have Mk_Relabelling : Mk K (He.ga K "Relabelling") (He.ma K (He.ga K "Relabelling") "__init__") := ⟨(says_ex c 111 rfl), (show PySem.W.findIn K (.ref (He.ga K "Relabelling")) "__init__" = some (some (.ref (He.ma K (He.ga K "Relabelling") "__init__"))) from of_decide_eq_true (says_ex c 112 rfl)), (says_ex c 113 rfl), (says_ex c 114 rfl)⟩
  have Cl_Relabelling : Cls K (He.ga K "Relabelling") := ⟨(says_ex c 115 rfl), (says_ex c 116 rfl), (says_ex c 117 rfl), (show PySem.W.findIn K (.ref (He.ga K "Relabelling")) "__setattr__" = some (some (.builtin "object.__setattr__")) from of_decide_eq_true (says_ex c 118 rfl))⟩
  have na_Relabelling_prime : NoAttr K (He.ga K "Relabelling") "_prime" := (show PySem.W.findIn K (.ref (He.ga K "Relabelling")) "_prime" = some none from of_decide_eq_true (says_ex c 119 rfl))
  have na_Relabelling_tables : NoAttr K (He.ga K "Relabelling") "_tables" := (show PySem.W.findIn K (.ref (He.ga K "Relabelling")) "_tables" = some none from of_decide_eq_true (says_ex c 120 rfl))
  have w1_Relabelling := (show PySem.W.findIn K (.ref (He.ga K "Relabelling")) "__class__" = some (some (.builtin "object.__class__")) from of_decide_eq_true (says_ex c 121 rfl))
  have w2_Relabelling := (show PySem.W.specialIn K (.builtin "object.__class__") "__get__" = some (some (.builtin "getset_descriptor.__get__")) from of_decide_eq_true (says_ex c 122 rfl))
  have w3_Relabelling := (show PySem.W.takesIn K (.builtin "object.__class__") = some true from of_decide_eq_true (says_ex c 123 rfl))
  have w4_Relabelling := (show PySem.W.mroIn K (He.ga K "Relabelling") (.type "object") = some true from of_decide_eq_true (says_ex c 124 rfl))
  have w5_Relabelling := (show PySem.W.findIn K (.ref (He.ga K "Relabelling")) "__ne__" = some (some (.builtin "object.__ne__")) from of_decide_eq_true (says_ex c 125 rfl))
  have ty_Relabelling := (show PySem.W.typeIn K (.ref (He.ga K "Relabelling")) = some (.type "type") from of_decide_eq_true (says_ex c 126 rfl))
  obtain ⟨kV59, dc59, pm59, an59, ct59, ⟨oc59, od59, sl59, l59⟩, kk59, c59⟩ := says_sup c 59 rfl (says_ex c 127 rfl)
  have h_PrimesDiffer := PySem.W.mg_of X G (show PySem.W.nsIn K mainGlobals "PrimesDiffer" = some (some (.ref (He.ga K "PrimesDiffer"))) from of_decide_eq_true (says_ex c 128 rfl))
  have FC_PrimesDiffer : FunC l.prog K mg "__init__" "PrimesDiffer.__init__" sE_PrimesDiffer (He.ma K (He.ga K "PrimesDiffer") "__init__") (He.ga K "PrimesDiffer") (ccA K (He.ma K (He.ga K "PrimesDiffer") "__init__")) (cdA K (He.ma K (He.ga K "PrimesDiffer") "__init__")) _ "ValueError.__init__" := ⟨⟨_, _, _, _, _, _, _, _, rfl, l59⟩, c59, cellB_ok (says_ex c 129 rfl), (let ⟨_, a1, a2, a3, a4, a5, a6, a7, a8, a9⟩ := cdB_ok (says_ex c 127 rfl); ⟨a1, a2, a3, a4, a5, a6, a7, a8, by rw [hfl]; exact a9⟩), (show PySem.W.ks_superIn K (He.ga K "PrimesDiffer") (He.ga K "PrimesDiffer") "__init__" = some (some (.builtin "ValueError.__init__")) from of_decide_eq_true (says_ex c 130 rfl)), (show PySem.W.nsIn K cStatics "thirdparty.any" = some none from of_decide_eq_true (says_ex c 131 rfl)), z_super, hsu, ⟨_, rfl, rfl⟩, by decide +kernel, by decide +kernel, by decide +kernel⟩
  have OX_PrimesDiffer : OexC K (He.ga K "PrimesDiffer") := oexB_ok (says_ex c 132 rfl)
  have EN_PrimesDiffer : ErrN K (He.ga K "PrimesDiffer") "PrimesDiffer" := errB_ok (says_ex c 133 rfl)
  have na_PrimesDiffer_code : NoAttr K (He.ga K "PrimesDiffer") "code" := (show PySem.W.findIn K (.ref (He.ga K "PrimesDiffer")) "code" = some none from of_decide_eq_true (says_ex c 134 rfl))
  have na_PrimesDiffer_details : NoAttr K (He.ga K "PrimesDiffer") "details" := (show PySem.W.findIn K (.ref (He.ga K "PrimesDiffer")) "details" = some none from of_decide_eq_true (says_ex c 135 rfl))
  have bE_PrimesDiffer : Binds K (PySem.W.fnX "__init__" "PrimesDiffer.__init__" (defArgs sE_PrimesDiffer) (defBody sE_PrimesDiffer) (defScope sE_PrimesDiffer) [("__class__", ccA K (He.ma K (He.ga K "PrimesDiffer") "__init__"))] .none kV59 dc59 pm59 an59 (.ref (cdA K (He.ma K (He.ga K "PrimesDiffer") "__init__"))) ct59) ["self"] [] := .all fun us hl => match us, hl with | [_], _ => rfl
  obtain ⟨ockw, odkw, fdkw, slkw, Dkw, Akw, okw, nkw, qk1, qk2, qk3, qk4, qk5, qk6⟩ := kwTB_ok (says_ex c 138 rfl)
  have ekw := l22.symm.trans qk1
  cases ekw
  have ekv : kV22 = .ref Dkw := qk2
  subst ekv
  have F_rl : FunD K "relabel" "relabel" (defArgs sRl) (defBody sRl) (defScope sRl) [] [("chosen", .ref Akw)] (He.ga K "relabel") _ := ⟨⟨oc22, od22, .none, .ref Dkw, dc22, pm22, an22, cd22, ct22, sl22, rfl, l22, c22, .inl ⟨rfl, rfl⟩, .inr ⟨Dkw, rfl, fun q hq => by rw [List.mem_singleton.mp hq]; exact ⟨_, qk3, rfl⟩⟩⟩, k22⟩
  obtain ⟨mvk, kbD⟩ := F_rl.kbinds0 (ps := ["one", "other", "dials", "chosen"]) 1 ["other", "dials"] [("chosen", .ref Akw)] (fun us mv ws => us ++ ws ++ mv) (by simp) (fun q hq => hq) (fun r1 r2 r3 => (r1.append r3).append r2) (fun D doc pm an cdv ct us mv ws l1 l2 l3 => match us, mv, ws, l1, l2, l3 with | [_], [_], [_, _], _, _, _ => ⟨_, _, _, _, _, _, rfl, rfl, rfl⟩)
  have hAK : ∀ H, SqT K H Akw [] := fun H => .inr ⟨okw, #[], nkw, qk4, qk5, qk6, Nat.zero_le _, .nil⟩
  have kbR : KBn K (PySem.W.fnOf "relabel" "relabel" (defArgs sRl) (defBody sRl) (defScope sRl) .none (.ref Dkw) dc22 pm22 an22 cd22 ct22) ["one", "other", "dials", "chosen"] 3 ["chosen"] (fun us ws => us ++ ws) gApp := ⟨fun s us ws _ l1 l2 => match us, ws, l1, l2 with | [a, b, c], [d], _, _ => .of_eq rfl, fun r1 r2 => r1.append r2⟩
  have hfa2 := hfa.symm.trans g45
  cases hfa2
  refine ⟨PySem.W.fnOf "law" "law" (defArgs sLaw) (defBody sLaw) (defScope sLaw) .none kV45 dc45 pm45 an45 cd45 ct45, fun s v => .of_eq rfl, fun base _ _ => ?_⟩
  have KE_PrimesDiffer : ∀ {vsOk : List V → Hp → List PyData → Prop} {k : Nat}, FnOk l.prog w K mg base CX0 k (He.ma K (He.ga K "PrimesDiffer") "__init__") _ ["self"] (spErr K (He.ga K "PrimesDiffer") "PrimesDiffer" vsOk) → Ke l.prog w K mg base k "PrimesDiffer" (He.ga K "PrimesDiffer") "PrimesDiffer" ["self"] vsOk := fun z => ⟨h_PrimesDiffer, OX_PrimesDiffer, ⟨_, _, (show PySem.W.findIn K (.ref (He.ga K "PrimesDiffer")) "__init__" = some (some (.ref (He.ma K (He.ga K "PrimesDiffer") "__init__"))) from of_decide_eq_true (says_ex c 136 rfl)), (show PySem.W.typeIn K (.ref (He.ma K (He.ga K "PrimesDiffer") "__init__")) = some (.type "function") from of_decide_eq_true (says_ex c 137 rfl)), bE_PrimesDiffer, z⟩⟩
  have D_num := df_mk g0 k0 b0 (ok_num (P := l.prog) (w := w) (base := base) F0 B)
  have D_bel := df_mk g1 k1 b1 (ok_bel F1 D_num)
  have D_chp := df_mk g2 k2 b2 (ok_chp F2 gv D_num)
  have D_isst := df_mk g24 k24 b24 (ok_isst F24 B D_bel)
  have D_first := df_mk g25 k25 b25 (ok_first F25 B cv D_isst)
  have OI := ok_init FI B Tcl D_chp D_bel D_first
  have KF : Kf l.prog w K mg base 5 (He.ga K "Turner") 2 ["self", "prime", "states", "start"] ["start"] gMk (spInit (He.ga K "Turner")) := ⟨⟨_, _, _, Mt, KB, OI⟩⟩
  have K0 : Kd0 l.prog w K mg base 5 (He.ga K "Turner") ["self", "prime", "states", "start"] (spInit (He.ga K "Turner")) := ⟨⟨_, _, _, Mt, VD, BD, OI⟩⟩
  have Ests : Mf l.prog w K mg base 1 (He.ga K "Turner") "states" ["self"] (spSts (He.ga K "Turner")) := ⟨⟨_, _, ⟨am_states, im_states, km_states⟩, bm_states, ok_sts (P := l.prog) (w := w) (base := base) Fm_states B Tcl⟩⟩
  have E_prime : Pf l.prog w K mg base 1 (He.ga K "Turner") "prime" ["self"] (getSp (He.ga K "Turner") "_prime") := ⟨⟨_, _, _, ⟨ap_prime, gp_prime, tp_prime, _, rp_prime⟩, bp_prime, fn_getter (k := 0) lp_prime cp_prime sc_sPrm rfl rfl Tcl.cl Tcl.nP⟩⟩
  have E_start : Pf l.prog w K mg base 1 (He.ga K "Turner") "start" ["self"] (getSp (He.ga K "Turner") "_start") := ⟨⟨_, _, _, ⟨ap_start, gp_start, tp_start, _, rp_start⟩, bp_start, fn_getter (k := 0) lp_start cp_start sc_sStt rfl rfl Tcl.cl Tcl.nT⟩⟩
  have Elen : Ol l.prog w K mg base 1 (He.ga K "Turner") ["self"] (spLen (He.ga K "Turner")) := ⟨⟨_, _, am_len, im_len, bm_len, ok_len (P := l.prog) (w := w) (base := base) Fm_len B Tcl⟩⟩
  have D_cp := df_mk g23 k23 b23 (copied_all (P := l.prog) (w := w) (base := base) F23 B g23 k23 b23 8)
  have KPrimesDiffer := KE_PrimesDiffer (okE_PrimesDiffer FC_PrimesDiffer OX_PrimesDiffer EN_PrimesDiffer na_PrimesDiffer_code na_PrimesDiffer_details)
  have D_issA := df_mk g5 k5 b5 (ok_issA F5 B gv D_chp D_bel)
  have D_chsA := df_mk g6 k6 b6 (ok_chsA F6 D_issA)
  have D_noA := df_mk g7 k7 b7 (ok_noA F7 z_reversed D_chsA)
  have DAC := df_mk g8 k8 b8 (ok_are F8 B Tcl D_bel E_prime Elen)
  have DCC := df_mk g9 k9 b9 (ok_chc F9 DAC)
  have DFC := df_mk g10 k10 b10 (ok_fc F10 B Tcl E_start Elen)
  have DNC := df_mk g11 k11 b11 (ok_nc F11 B Tcl DCC Ests E_prime Elen)
  have DTT := df_mk g12 k12 b12 (ok_tt F12 B z_sum Tcl DCC Ests E_prime)
  have D_tb := df_mk g13 k13 b13 (ok_tb F13 B DFC DNC DTT)
  have D_cc := df_mk g3 k3 b3 (ok_cc F3 D_num)
  have D_cos := df_mk g4 k4 b4 (ok_cos (P := l.prog) (w := w) (base := base) F4 B hI_MOST_SETTINGS)
  have D_chG := df_mk g19 k19 b19 (ok_chG F19 D_bel)
  have D_ctG := df_mk g20 k20 b20 (ok_ctG F20 B D_tb)
  have D_im := df_mk g15 k15 b15 (ok_im (P := l.prog) (w := w) (base := base) F15 B)
  have D_to := df_mk g14 k14 b14 (ok_to F14 B Tcl Ests E_prime E_start)
  have D_tbw := df_mk g21 k21 b21 (ok_tbw (P := l.prog) (w := w) (base := base) F21 B)
  have D_ist := df_mk g16 k16 b16 (ok_ist F16 B D_bel)
  have D_cht := df_mk g17 k17 b17 (ok_cht F17 B D_cos D_ist)
  have TC : Rc K (He.ga K "Relabelling") := ⟨Cl_Relabelling, na_Relabelling_prime, na_Relabelling_tables⟩
  have OI := ok_rin FI_Relabelling B TC D_chp D_cht
  have KN : Kdl l.prog w K mg base 5 (He.ga K "Relabelling") ["self", "prime", "tables"] (spRIn (He.ga K "Relabelling")) := ⟨⟨_, _, Mk_Relabelling, bI_Relabelling, OI⟩⟩
  have E_tables : Mf l.prog w K mg base 1 (He.ga K "Relabelling") "tables" ["self"] (spRTb (He.ga K "Relabelling")) := ⟨⟨_, _, ⟨am_Relabelling_tables, im_Relabelling_tables, km_Relabelling_tables⟩, bm_Relabelling_tables, ok_rtb (P := l.prog) (w := w) (base := base) Fm_Relabelling_tables B TC⟩⟩
  have EPR : Pf l.prog w K mg base 1 (He.ga K "Relabelling") "prime" ["self"] (getSp (He.ga K "Relabelling") "_prime") := ⟨⟨_, _, _, Op_Relabelling_prime, bp_Relabelling_prime, fn_getter (k := 0) lp_Relabelling_prime cp_Relabelling_prime sc_RPr rfl rfl TC.cl TC.nP⟩⟩
  have ED : Pf l.prog w K mg base 1 (He.ga K "Relabelling") "dials" ["self"] (spRDi (He.ga K "Relabelling")) := ⟨⟨_, _, _, Op_Relabelling_dials, bp_Relabelling_dials, ok_rdi (P := l.prog) (w := w) (base := base) Fp_Relabelling_dials B TC⟩⟩
  have RI : Ri K (He.ga K "Relabelling") := ⟨w1_Relabelling, w2_Relabelling, w3_Relabelling, w4_Relabelling⟩
  have W : Ow l.prog w K mg base 1 (He.ga K "Relabelling") ["self", "other"] (spREq K (He.ga K "Relabelling")) := ⟨⟨_, _, am_Relabelling_eq, im_Relabelling_eq, bm_Relabelling_eq, ok_req (P := l.prog) (w := w) (base := base) Fm_Relabelling_eq B TC RI aC_Relabelling⟩, w5_Relabelling, w4_Relabelling⟩
  have E_behind : Mf l.prog w K mg base 2 (He.ga K "Relabelling") "_behind" ["self", "dials"] (spRBh (He.ga K "Relabelling")) := ⟨⟨_, _, ⟨am_Relabelling_behind, im_Relabelling_behind, km_Relabelling_behind⟩, bm_Relabelling_behind, ok_rbh Fm_Relabelling_behind TC D_im⟩⟩
  have D_ut := df_mk g18 k18 b18 (ok_ut (P := l.prog) (w := w) (base := base) F18 B)
  have E_inverse : Mf l.prog w K mg base 7 (He.ga K "Relabelling") "inverse" ["self"] (spRInv (He.ga K "Relabelling")) := ⟨⟨_, _, ⟨am_Relabelling_inverse, im_Relabelling_inverse, km_Relabelling_inverse⟩, bm_Relabelling_inverse, ok_rinv Fm_Relabelling_inverse B TC aC_Relabelling D_ut E_behind KN⟩⟩
  have E_leads : Mf l.prog w K mg base 13 (He.ga K "Relabelling") "leads" ["self", "one", "other"] (spLdG (He.ga K "Relabelling") (He.ga K "Turner")) := ⟨⟨_, _, ⟨am_Relabelling_leads, im_Relabelling_leads, km_Relabelling_leads⟩, bm_Relabelling_leads, ld_good (ok_ld Fm_Relabelling_leads B TC Tcl E_behind D_im D_to E_prime KPrimesDiffer)⟩⟩
  have GL : DfN l.prog w K mg base 13 "relabel" ["one", "other", "dials", "chosen"] 3 ["chosen"] gApp (spRlX K (He.ga K "Turner") (He.ga K "Relabelling") chL) := ⟨⟨_, _, _, g22, k22, kbR, ok_rlL F22 B gv Tcl E_prime D_cc D_chG D_ctG D_im D_to D_noA D_cos D_tbw aC_Relabelling KN⟩⟩
  have OT := ok_rlT F22 B gv Tcl E_prime D_cc D_chG D_ctG D_im D_to D_noA D_cos D_tbw aC_Relabelling KN
  have GT : DfN l.prog w K mg base 13 "relabel" ["one", "other", "dials", "chosen"] 3 ["chosen"] gApp (spRlX K (He.ga K "Turner") (He.ga K "Relabelling") (chT K)) := ⟨⟨_, _, _, g22, k22, kbR, OT⟩⟩
  have GD : DfN l.prog w K mg base 13 "relabel" ["one", "other", "dials", "chosen"] 1 ["other", "dials"] (gDef Akw) (spRlX K (He.ga K "Turner") (He.ga K "Relabelling") (chT K)) := ⟨⟨_, _, _, g22, k22, kbD, OT⟩⟩
  have L_bag := df_mk g26 k26 b26 (ok_bag (P := l.prog) (w := w) (base := base) F26 B)
  have L_pull := df_mk g27 k27 b27 (ok_pull (P := l.prog) (w := w) (base := base) F27 B)
  have L_of := df_mk g28 k28 b28 (ok_of F28 B L_pull)
  have L_prime := df_mk g30 k30 b30 (ok_prime F30 L_of)
  have L_figures := df_mk g31 k31 b31 (ok_figs F31 B L_pull)
  have L_same := df_mk g29 k29 b29 (same_all (P := l.prog) (w := w) (base := base) F29 B z_str g29 k29 b29 5)
  have L_plain := df_mk g32 k32 b32 (ok_plain F32 B L_pull L_of L_figures)
  have L_made := df_mk g33 k33 b33 (ok_made F33 B cv KF)
  have L_way := df_mk g34 k34 b34 (ok_way (P := l.prog) (w := w) (mg := mg) (base := base) F34)
  have L_beh := df_mk g35 k35 b35 (ok_beh F35 B L_way)
  have L_few := df_mk g39 k39 b39 (ok_few (P := l.prog) (w := w) (mg := mg) (base := base) F39)
  have L_times := df_mk g38 k38 b38 (ok_lt (P := l.prog) (w := w) (base := base) F38 B)
  have L_all := df_mk g36 k36 b36 (ok_alln (P := l.prog) (w := w) (base := base) F36 B)
  have L_value := df_mk g37 k37 b37 (ok_lv (P := l.prog) (w := w) (mg := mg) (base := base) F37)
  have L_named := df_mk g44 k44 b44 (ok_lnm F44 B L_value)
  have L_undone := df_mk g40 k40 b40 (ok_lund (P := l.prog) (w := w) (base := base) F40 B)
  have L_joined := df_mk g41 k41 b41 (ok_join (P := l.prog) (w := w) (base := base) F41 B)
  have L_od := df_mk g42 k42 b42 (ok_od (P := l.prog) (w := w) (mg := mg) (base := base) F42)
  have L_sg := df_mk g43 k43 b43 (ok_sgE F43 L_od L_pull L_plain L_joined L_undone)
  exact ok_law F45 B.1 B.list B.tuple B.range Cl_Relabelling L_bag L_prime L_pull L_few L_sg L_figures L_made GL GT GD E_tables EPR ED L_same L_times L_all L_named L_beh E_leads E_inverse W hAK

def looseL0 : List PySem.Str := ["_wall", "copied", "TurnError", "Missing", "InvalidPrime", "InvalidFigure", "InvalidSetting", "InvalidCount", "InvalidState", "InvalidStart", "InvalidText", "InvalidCounts", "InvalidTable", "PrimesDiffer", "TooMany", "NotSingle", "NoRelabelling", "UnknownState", "PRIMES", "MOST_DIALS", "MOST_SETTINGS", "is_number", "is_below", "check_prime", "check_count", "count_settings", "is_setting", "check_setting", "number_of", "are_counts"]
def looseL1 : List PySem.Str := ["_check_counts", "first_counts", "next_counts", "turn_total", "totals_below", "tables_of", "images", "_is_table", "_check_tables", "_undone_table", "_joined_table", "Relabelling", "_check_chosen", "_check_totals", "_table_between", "relabel", "DIGITS", "is_numeral", "MOST_DIGITS", "_is_state", "_first_wrong", "_undone", "_pairs_behind", "_product_states", "_state_text", "_read_number", "_halves", "_read_state", "Turner", "_law_bag"]
def looseL2 : List PySem.Str := ["_law_pull", "_law_of", "_law_same", "_law_prime", "_law_figures", "_law_plain", "_law_made", "_law_way", "_law_behind", "_law_all_rows", "_law_value", "_law_times", "_law_few", "_law_undone", "_law_joined", "_law_odometer", "_law_single", "_law_named"]
def looseL : List PySem.Str := looseL0 ++ looseL1 ++ looseL2
abbrev RL : PySem.W.OpenRow := PySem.W.OpenLaw.row PySem.Challenge.rw_lowturns_k51_whole_relabellings_lead
abbrev hkL : PySem.W.Hook := hookO nsL fsL exL
def obL (s : PySem.W.SharedT) : AlO := obG nsL fsL exL (HandSHeadRun.getT s)
theorem obL_eq (s : PySem.W.SharedT) : obL s = hkL.obs s.abs := obG_eq nsL fsL exL s
theorem runL (w : World) : HandSHeadRun.RunEq RL (PySem.W.view RL.prog [87]) hkL obL 20000 looseL w := by
  intro os
  kernel_rfl
end Tw
open PySem PySem.W PySem.Calls PyProof.Rows in
set_option maxRecDepth 100000 in
set_option maxHeartbeats 0 in
theorem PySem.Challenge.cw_lowturns_k51_whole_relabellings_lead_holds : PySem.Challenge.rw_lowturns_k51_whole_relabellings_lead.Holds := by
  w_on; o_law
  refine HandSHeadRun.head_any (r := OpenLaw.row PySem.Challenge.rw_lowturns_k51_whole_relabellings_lead) (q := view (OpenLaw.row PySem.Challenge.rw_lowturns_k51_whole_relabellings_lead).prog [87]) (H := Tw.hkL) (ob := Tw.obL) (M := 20000) (loose := Tw.looseL) (d := HandSHeadRun.topDef (OpenLaw.row PySem.Challenge.rw_lowturns_k51_whole_relabellings_lead).prog 87) (kwd := []) Tw.obL_eq
    (by kernel_rfl) (fun s => by kernel_rfl) Tw.runL (by kernel_rfl) (by kernel_rfl) (by kernel_rfl) (by rfl) (by first | assumption | decide +kernel) (by decide +kernel) ⟨rfl, rfl, rfl, rfl, rfl, by decide +kernel⟩ ?hw ?hc
  case hw => w_witness2
  case hc =>
    refine L2.walk_ofE (l := PySem.Challenge.rw_lowturns_k51_whole_relabellings_lead) (n := 63) (k := 24) (x := "_law_script") (CX := L2.CX0) rfl (by decide) (by kernel_rfl) ⟨rfl, by decide, by decide⟩ ?F (fun _ _ _ _ z => z)
    intro w mg fa h Y G hmg0
    obtain ⟨K, KX, c⟩ := Y
    have hmg : mg ("law" : PySem.Str) = some (.ref fa) := by
      have e : (HandSHeadRun.topDef (OpenLaw.row PySem.Challenge.rw_lowturns_k51_whole_relabellings_lead).prog 87).name = ("law" : PySem.Str) := by kernel_rfl
      rw [← e]
      exact hmg0
    obtain ⟨fd, hb, hF⟩ := Tw.all_t (l := PySem.Challenge.rw_lowturns_k51_whole_relabellings_lead) (w := w) (by decide +kernel) (by decide +kernel) KX G hmg c
    exact ⟨K, fd, Tw.spLaw K, KX, hb, fun H a ns hl _ hS => ⟨a, ns, rfl, hS, hl, fun _ => rfl⟩, hF⟩
namespace Tw


end Tw
