import PyProof.Rows.All
import Wide.All
import OpenK.AllK
import Wide.FinOn
import HandS.ForMost
import HandS.IsInst
import KE.GoesEnum
import HandS.Star
import HandS.Defaults
import HandS.MakeKw
import HandS.MakeKwOnly
import HandS.Property
import HandS.TupAny
import HandS.TupMul
import HandS.ClsMeth
import HandS.Zip
import HandS.OwnEq
import PyProof.InstNe
import HandS.Deep
import HandS.Style
import HandS.Dict
import KE.KDictDisplayH
import HandS.FStr
import HandS.NoneIn
import HandS.CallLocal
import PyProof.Draws
import KE.GoesMore
import HandS.Iter
import KE.KExcSuper
import PyProof.ExcBaseAll.ValueError
import HandS.ExcInit
import HandS.Nested
import HandS.ExcField
import HandS.TryMany
import PyProof.ListMulRoad
import PyProof.FactsAll.tuple_2
import KE.KSuper
import KE.KSuperObj
import KE.KStateDown
import HandS.Head0
import HandS.Head1
import HandS.Head2
import HandS.HeadEnd
import HandS.HeadHook1
import HandS.HeadHook2
import KE.KExcIs
import KE.KTypeName
import HandS.ExcIs
import PyProof.ReprNest
import PyProof.ReprHeadsTuple
import HandS.FStrTup
import KE.KTryMore
import PyProof.StrLawsRepr
import PyProof.FitsInt
import HandS.WordsExc
import KE.KLam
import HandS.Lambda
import HandS.HeadHook4
import HandS.EndTab
import HandS.HeadWalk
import HandS.Rev
import KE.KExcInit
import PyProof.ExcBaseAll.LookupError
import PyProof.ExcBaseAll.IndexError
import HandS.SortInts
import HandS.DictTup
import KE.KDictWalk
import PyProof.SumWalkG
import PyProof.Walk
import PyProof.WalkLemmas
import HandS.Conv
import HandS.TupSets
import HandS.SetFor
import HandS.Strs
import KE.GoesRaise
import PyProof.StrBlock2
import HandS.ExcValue
import HandS.TupLen
import PySem.Challenge.RW_lowturns_k54_whole_matches_by_counts
set_option Elab.async false
set_option linter.all false
set_option maxRecDepth 100000
set_option maxHeartbeats 4000000
/-! The terms of bodies by their syntax: what a def's context knows of its names (Nm), rules over it, and the steps that choose a rule. -/
namespace Tw
open PySem PySem.Spec PyProof.Rows L2

structure Df (P : Program) (w : World) (K : PySem.W.Frag) (mg : Str → Option Value) (base : Heap) (k : Nat) (x : Str) (ps : List Str) (sp : Sp) : Prop where
  ex : ∃ f fd, mg x = some (.ref f) ∧ PySem.W.keepIn K (.ref f) = true ∧ Binds K fd ps [] ∧ FnOk P w K mg base CX0 k f fd ps sp
def tD (sp : Sp) (t : TA) : TE := fun σ H Q => t σ H fun vs H1 => sp vs H1 Q E0

/-- names that are read, with their slots; names that are stored; names of the module and built-in ones -/
structure Nm (P : Program) (w : World) (K : PySem.W.Frag) (mg : Str → Option Value) (base : Heap) (j : Nat) (X : Cx) (NS WS : List (Str × Nat)) (G : List Str) : Prop where
  ep : X.prog = P
  ew : X.w = w
  eK : X.K = K
  em : X.mg = mg
  eb : X.base = base
  room : Room j X.A
  calm : X.calm = true
  nd : X.N.Nodup
  vis : ∀ x i, (x, i) ∈ NS → X.N[i]? = some x ∧ Vis X.env.scope x ∧ (x == ("__debug__" : Str)) = false ∧ (x == ("__classdict__" : Str)) = false
  wr : ∀ x i, (x, i) ∈ WS → X.N[i]? = some x ∧ Loc X.env.scope x ∧ (X.fn x = true ∨ X.env.scope.names.lookup x = some .local)
  gl : ∀ x, x ∈ G → Gl X x ∧ (x == ("__debug__" : Str)) = false ∧ x ≠ ("__name__" : Str)

def nmB (N : List Str) (NS : List (Str × Nat)) (G : List Str) (sc : Scope) : Bool :=
  decide N.Nodup && NS.all (fun p => decide (N[p.2]? = some p.1) && (decide (sc.names.lookup p.1 = some .local) || decide (sc.names.lookup p.1 = some .cell)) && !(p.1 == ("__debug__" : Str)) && !(p.1 == ("__classdict__" : Str)))
    && G.all (fun x => decide (sc.names.lookup x = some .globalImplicit) && !(x == ("__debug__" : Str)) && decide (x ≠ ("__name__" : Str)))
theorem nm_of {CX : CXT} {P : Program} {w : World} {K : PySem.W.Frag} {mg : Str → Option Value} {base : Heap} {j : Nat} {N : List Str} {NS : List (Str × Nat)} {G : List Str} {qual : Str} {scope : Scope} {f : Addr} {cd : Value} {A : Around} {outer : List Env} {s : Shared} {H : Hp} {E : XK}
    (h : nmB N NS G scope = true) (hr : Room j (A.deeper (envOfC qual scope s.heap.objs.size f cd))) : Nm P w K mg base j (cxOf CX P w K mg base N qual scope f cd A outer s H E).nox NS NS G := by
  unfold nmB at h
  simp only [Bool.and_eq_true, Bool.or_eq_true, Bool.not_eq_true', decide_eq_true_eq, List.all_eq_true] at h
  obtain ⟨⟨h1, h2⟩, h3⟩ := h
  refine ⟨rfl, rfl, rfl, rfl, rfl, hr, rfl, h1, fun x i hm => ?_, fun x i hm => ?_, fun x hm => ?_⟩
  · obtain ⟨⟨⟨a, b⟩, c⟩, d⟩ := h2 (x, i) hm
    refine ⟨a, ?_, c, d⟩
    rcases b with b | b
    · exact .inl b
    · exact .inr (.inl b)
  · obtain ⟨⟨⟨a, b⟩, c⟩, d⟩ := h2 (x, i) hm
    exact ⟨a, b, .inl rfl⟩
  · obtain ⟨⟨a, b⟩, c⟩ := h3 x hm
    exact ⟨a, b, c⟩

section
variable {P : Program} {w : World} {K : PySem.W.Frag} {mg : Str → Option Value} {base : Heap} {j k : Nat} {X : Cx} {NS WS : List (Str × Nat)} {G : List Str} {x : Str} {i : Nat} {p pos : Pos} {e : Expr} {es : List Expr} {t : TA} {ps : List Str} {sp : Sp} {te : TE}
theorem n_v (h : Nm P w K mg base j X NS WS G) (hm : (x, i) ∈ NS) : PE X (.Name x pos) (tVar i) := pe_var (h.vis x i hm).1 (h.vis x i hm).2.1 (h.vis x i hm).2.2.1 (h.vis x i hm).2.2.2
theorem n_g (h : Nm P w K mg base j X NS WS G) (hm : (x, i) ∈ WS) : PG X (.Name x pos) (gName i) := pg_name h.nd (h.wr x i hm).1 (h.wr x i hm).2.1 (h.wr x i hm).2.2
theorem n_d (h : Nm P w K mg base j X NS WS G) (D : Df P w K mg base k x ps sp) (hk : k ≤ j) (hg : x ∈ G) (ha : PA X (e :: es) t)
    (he : starEach (e :: es) X.env = (false, eval e X.env) :: starEach es X.env := by rfl) (hpl : (backTo pos (starEach es X.env)).any (·.1) = false := by rfl) :
    PE X (.Call (.Name x p) (e :: es) [] pos) (tD sp t) := by
  obtain ⟨h1, h2, h3, h4, h5, hr, _, _, _, _, hgl⟩ := h
  subst h1 h2 h3 h4 h5
  obtain ⟨f, fd, hm, hkp, hb, F⟩ := D.ex
  refine ⟨fun pins s σ H Q I h => ?_⟩
  refine (pe_call F (hr.mono hk) (hgl x hg).1 hm hkp hb .nil pass0 ha (hgl x hg).2.1 he hpl).run pins s σ H Q I ?_
  show t σ H fun vs H1 => sp (vs ++ []) H1 Q E0
  simp only [List.append_nil]
  exact h
theorem n_b {id : String} {r : List V → Hp → VK → Prop} (h : Nm P w K mg base j X NS WS G) (hm : mg x = none) (hc : CallR X (.builtin id) r) (hv : bootBuiltins x = some (.builtin id)) (hg : x ∈ G) (ha : PA X (e :: es) t)
    (he : starEach (e :: es) X.env = (false, eval e X.env) :: starEach es X.env := by rfl) (hpl : (backTo pos (starEach es X.env)).any (·.1) = false := by rfl) : PE X (.Call (.Name x p) (e :: es) [] pos) (tCB r t) :=
  pe_callB hc (h.gl x hg).1 (by rw [h.em]; exact hm) hv ha (h.gl x hg).2.2 (h.gl x hg).2.1 he hpl
theorem n_t {T : String} {r : List V → Hp → VK → Prop} (h : Nm P w K mg base j X NS WS G) (hm : mg x = none) (hc : CallR X (.type T) r) (hv : bootBuiltins x = some (.type T)) (hg : x ∈ G) (ha : PA X (e :: es) t)
    (he : starEach (e :: es) X.env = (false, eval e X.env) :: starEach es X.env := by rfl) (hpl : (backTo pos (starEach es X.env)).any (·.1) = false := by rfl) : PE X (.Call (.Name x p) (e :: es) [] pos) (tCB r t) :=
  pe_callTy hc (h.gl x hg).1 (by rw [h.em]; exact hm) hv ha (h.gl x hg).2.2 (h.gl x hg).2.1 he hpl
theorem n_for {tg iter : Expr} {body : List Stmt} {wi : TI} {g : TG} {tb : TS} (h : Nm P w K mg base j X NS WS G) (hp : PassesOwn (model X.prog X.w) X.A X.env X.xe) (hi : PI X tg iter wi) (hg : PG X tg g) (hb : PSs X body tb)
    (hs : ∀ x, foldedSetIterable iter X.env x = pure x := by intro _; rfl) : PS X (.For tg iter body [] pos) (tFor wi g tb) := ps_for hp h.calm hi hg hb hs
theorem n_rng {tg a : Expr} (h : Nm P w K mg base j X NS WS G) (hm : mg "range" = none) (hg : ("range" : Str) ∈ G) (ha : PA X [a] t) (hs : starEach [a] X.env = [(false, eval a X.env)] := by rfl) : PI X tg (.Call (.Name "range" p) [a] [] pos) (iRng1 t) :=
  pi_range1 (h.gl _ hg).1 (by rw [h.em]; exact hm) ha hs
end
theorem p0 {α : Type} {a : α} {r : List α} : a ∈ a :: r := List.mem_cons_self
theorem pS {α : Type} {a b : α} {r : List α} (h : a ∈ r) : a ∈ b :: r := List.mem_cons_of_mem _ h
theorem ex_mk {α : Type} {A B : α → Prop} {t : α} (h1 : A t) (h2 : B t) : ∃ t, A t ∧ B t := ⟨t, h1, h2⟩

/-- the built-in names that the text uses stand for the built-ins -/
structure Bn (mg : Str → Option Value) : Prop where
  len : mg "len" = none
  int : mg "int" = none
  abs : mg "abs" = none
  list : mg "list" = none
  tuple : mg "tuple" = none
  range : mg "range" = none
  isinstance : mg "isinstance" = none
  all : mg "all" = none
  zip : mg "zip" = none
  enumerate : mg "enumerate" = none
  bool : mg "bool" = none
theorem boot_abs : bootBuiltins "abs" = some (.builtin "abs") := by decide +kernel

theorem cut {t u : TS} {D : Ends} {σ : L2.St} {H : Hp} {Pv : L2.St → Hp → Prop} (h2 : ∀ σ' H', Pv σ' H' → u D σ' H') (h : ∀ N : L2.St → Hp → Prop, (∀ σ' H', Pv σ' H' → N σ' H') → t { D with nx := N } σ H) : tSeq t u D σ H := h (u D) h2

/-! ### a comprehension's block -/
def kNames (scD scope : Scope) : List (Str × NameKind) := scope.names.map fun (n, k) => if (k == .free && scD.kind == .function && scD.names.lookup n == some .cell) then (n, .cell) else (n, k)
def nmbB (N : List Str) (NS WS : List (Str × Nat)) (G : List Str) (scD scope : Scope) : Bool :=
  NS.all (fun p => decide (N[p.2]? = some p.1) && (decide ((kNames scD scope).lookup p.1 = some .local) || decide ((kNames scD scope).lookup p.1 = some .cell) || decide ((kNames scD scope).lookup p.1 = some .free)) && !(p.1 == ("__debug__" : Str)) && !(p.1 == ("__classdict__" : Str)))
    && WS.all (fun p => decide (N[p.2]? = some p.1) && decide ((kNames scD scope).lookup p.1 = some .local))
    && G.all (fun x => decide ((kNames scD scope).lookup x = some .globalImplicit) && !(x == ("__debug__" : Str)) && decide (x ≠ ("__name__" : Str)))
theorem nm_blk {P : Program} {w : World} {K : PySem.W.Frag} {mg : Str → Option Value} {base : Heap} {j : Nat} {X : Cx} {NS WS NS' WS' : List (Str × Nat)} {G G' : List Str} {N : List Str} {scD scope : Scope} {s : Shared} {H : Hp} {C : Addr} {cl : List (Str × Addr)} {fp : List Addr}
    (h : Nm P w K mg base j X NS WS G) (eN : X.N = N) (eS : X.env.scope = scD) (hb : nmbB N NS' WS' G' scD scope = true) : Nm P w K mg base j (X.blk s H scope (compEnvC scope cl C X.env) fp) NS' WS' G' := by
  have ek : (compEnvC scope cl C X.env).scope.names = kNames scD scope := by
    subst eS
    rfl
  unfold nmbB at hb
  simp only [Bool.and_eq_true, Bool.or_eq_true, Bool.not_eq_true', decide_eq_true_eq, List.all_eq_true] at hb
  obtain ⟨⟨h1, h2⟩, h3⟩ := hb
  refine ⟨h.ep, h.ew, h.eK, h.em, h.eb, h.room, h.calm, h.nd, fun x i hm => ?_, fun x i hm => ?_, fun x hm => ?_⟩
  · obtain ⟨⟨⟨a, b⟩, c⟩, d⟩ := h1 (x, i) hm
    refine ⟨by show X.N[i]? = some x; rw [eN]; exact a, ?_, c, d⟩
    show (compEnvC scope cl C X.env).scope.names.lookup x = some .local ∨ (compEnvC scope cl C X.env).scope.names.lookup x = some .cell ∨ (compEnvC scope cl C X.env).scope.names.lookup x = some .free
    rw [ek]
    rcases b with (b | b) | b
    · exact .inl b
    · exact .inr (.inl b)
    · exact .inr (.inr b)
  · obtain ⟨a, b⟩ := h2 (x, i) hm
    refine ⟨by show X.N[i]? = some x; rw [eN]; exact a, .inl ?_, .inr ?_⟩
    · show (compEnvC scope cl C X.env).scope.names.lookup x = some .local
      rw [ek]; exact b
    · show (compEnvC scope cl C X.env).scope.names.lookup x = some .local
      rw [ek]; exact b
  · obtain ⟨⟨a, b⟩, c⟩ := h3 x hm
    refine ⟨?_, b, c⟩
    show (compEnvC scope cl C X.env).scope.names.lookup x = some .globalImplicit
    rw [ek]; exact a


section
variable {P : Program} {w : World} {K : PySem.W.Frag} {mg : Str → Option Value} {base : Heap} {j k : Nat} {X : Cx} {NS WS NS' WS' : List (Str × Nat)} {G G' : List Str} {N : List Str} {scD scope : Scope} {pos spos : Pos}
/-- [elt for tg in iter], tg a name in slot i: its parts in any context that knows the block's names -/
theorem n_lc {elt tg iter : Expr} {own : List (Str × Nat)} {wi : TI} {g : TG} {te : TE} (h : Nm P w K mg base j X NS WS G) (eN : X.N = N) (eS : X.env.scope = scD) (hk : blkC N scD scope own = true) (hb : nmbB N NS' WS' G' scD scope = true) (hi : PI X tg iter wi)
    (hg : ∀ X', Nm P w K mg base j X' NS' WS' G' → PG X' tg g) (he : ∀ X', Nm P w K mg base j X' NS' WS' G' → PE X' elt te) (hs : ∀ x, foldedSetIterable iter X.env x = pure x := by intro _; rfl) :
    PE X (.ListComp elt [⟨tg, iter, [], 0⟩] scope pos) (tLc wi g tYes te (own.map (·.2))) :=
  pe_lc h.calm h.nd hi (by subst eN eS; exact blkOk_by hk) (fun s H C cl fp => hg _ (nm_blk h eN eS hb)) (fun _ _ _ _ _ => pts_nil) (fun s H C cl fp => he _ (nm_blk h eN eS hb)) hs
theorem n_setLc {i : Nat} {y : Str} {py : Pos} {elt tg iter : Expr} {own : List (Str × Nat)} {wi : TI} {g : TG} {te : TE} (h : Nm P w K mg base j X NS WS G) (hy : (y, i) ∈ WS) (hyl : X.env.scope.names.lookup y = some .local) (eN : X.N = N) (eS : X.env.scope = scD) (hk : blkC N scD scope own = true) (hb : nmbB N NS' WS' G' scD scope = true)
    (hsw : swapsWith (.ListComp elt [⟨tg, iter, [], 0⟩] scope pos) (some (.Name y py)) spos.line X.env = pure true) (hi : PI X tg iter wi)
    (hg : ∀ X', Nm P w K mg base j X' NS' WS' G' → PG X' tg g) (he : ∀ X', Nm P w K mg base j X' NS' WS' G' → PE X' elt te) (hs : ∀ x, foldedSetIterable iter X.env x = pure x := by intro _; rfl) :
    PS X (.Assign [.Name y py] (.ListComp elt [⟨tg, iter, [], 0⟩] scope pos) spos) (tAsg (tLc wi g tYes te (own.map (·.2))) (gName i)) :=
  ps_setLc h.calm h.nd (h.wr y i hy).1 hyl hsw hi (by subst eN eS; exact blkOk_by hk) (fun s H C cl fp => hg _ (nm_blk h eN eS hb)) (fun _ _ _ _ _ => pts_nil) (fun s H C cl fp => he _ (nm_blk h eN eS hb)) hs
end

theorem yes_ {σ : L2.St} {H : Hp} {A B : Hp → Prop} (h : A H) : tYes σ H (fun b H3 => if b = true then A H3 else B H3) := by
  show (if true = true then A H else B H)
  exact iteT h
/-! ### the bag of draws at b, its cells at l -/
def Bag (H : Hp) (b l : Addr) : Prop := ∃ (i r m t : Int) (ns : List Int), H b = some (.lst [.ref l, .int i, .int r, .int m, .int t]) ∧ H l = some (.lst (ns.map V.int)) ∧ 0 ≤ i ∧ 0 ≤ r ∧ 0 ≤ m ∧ m < 2147483647
/-- all but b stays -/
def Keep (b : Addr) (H H' : Hp) : Prop := ∀ a o, a ≠ b → H a = some o → H' a = some o
/-- all but b stays; b is a bag still -/
def Stp (b l : Addr) (H H' : Hp) : Prop := Keep b H H' ∧ Bag H' b l
theorem keep_rfl {b : Addr} {H : Hp} : Keep b H H := fun _ _ _ e => e
theorem keep_trans {b : Addr} {H H1 H2 : Hp} (x : Keep b H H1) (y : Keep b H1 H2) : Keep b H H2 := fun a o n e => y a o n (x a o n e)
theorem keep_new {b p : Addr} {H : Hp} {o : HO} (h : H p = none) : Keep b H (upd H p o) := fun a u _ e => by rw [upd_ne (ne_of_none e h)]; exact e
theorem keep_add {b p : Addr} {H H1 : Hp} {o : HO} (x : Keep b H H1) (h : H1 p = none) : Keep b H (upd H1 p o) := keep_trans x (keep_new h)
/-- p was new at H; it is written again -/
theorem keep_put {b p : Addr} {H H1 : Hp} {o : HO} (x : Keep b H H1) (h : H p = none) : Keep b H (upd H1 p o) := fun a u n e => by rw [upd_ne (ne_of_none e h)]; exact x a u n e
theorem same_keep {b : Addr} {H H1 : Hp} (x : Same H H1) : Keep b H H1 := fun a o _ e => x a o e
theorem same_new {p : Addr} {H : Hp} {o : HO} (h : H p = none) : Same H (upd H p o) := fun a u e => by rw [upd_ne (ne_of_none e h)]; exact e
theorem same_add {p : Addr} {H H1 : Hp} {o : HO} (x : Same H H1) (h : H1 p = none) : Same H (upd H1 p o) := Same.trans x (same_new h)
theorem same_put {p : Addr} {H H1 : Hp} {o : HO} (x : Same H H1) (h : H p = none) : Same H (upd H1 p o) := fun a u e => by rw [upd_ne (ne_of_none e h)]; exact x a u e
section
variable {b l a p : Addr} {H H1 H' : Hp} {o : HO}
theorem Stp.trans {H2 : Hp} (x : Stp b l H H1) (y : Stp b l H1 H2) : Stp b l H H2 := ⟨keep_trans x.1 y.1, y.2⟩
theorem Bag.stp (x : Bag H b l) : Stp b l H H := ⟨keep_rfl, x⟩
theorem Bag.apart (x : Bag H b l) : l ≠ b := by
  obtain ⟨i, r, m, t, ns, hb, hl, _⟩ := x
  exact ne_of hl hb (by intro q; injection q with q; cases ns <;> simp at q)
theorem Bag.ne (x : Bag H b l) (h : H a = none) : a ≠ b := fun e => by
  obtain ⟨_, _, _, _, _, hb, _⟩ := x
  rw [e, hb] at h
  cases h
theorem Bag.ne2 (x : Bag H b l) (h : H a = none) : a ≠ l := fun e => by
  obtain ⟨_, _, _, _, _, _, hl, _⟩ := x
  rw [e, hl] at h
  cases h
theorem Bag.same (x : Bag H b l) (h : Same H H') : Bag H' b l := by
  obtain ⟨i, r, m, t, ns, hb, hl, q⟩ := x
  exact ⟨i, r, m, t, ns, h _ _ hb, h _ _ hl, q⟩
theorem Bag.new (x : Bag H b l) (h : H p = none) : Bag (upd H p o) b l := x.same (same_new h)
theorem Bag.put (x : Bag H b l) (h1 : p ≠ b) (h2 : p ≠ l) : Bag (upd H p o) b l := by
  obtain ⟨i, r, m, t, ns, hb, hl, q⟩ := x
  exact ⟨i, r, m, t, ns, by rw [upd_ne h1.symm]; exact hb, by rw [upd_ne h2.symm]; exact hl, q⟩
/-- a tuple stands apart from the bag -/
theorem Bag.tup {xs : List V} (x : Bag H b l) (h : H a = some (.tup xs)) : a ≠ b := fun e => by
  obtain ⟨_, _, _, _, _, hb, _⟩ := x
  rw [e, hb] at h
  cases h
theorem Bag.insA {C dx : Addr} {fs : List (Str × V)} (x : Bag H b l) (h : H a = some (.ins C dx fs)) : a ≠ b := fun e => by
  obtain ⟨_, _, _, _, _, hb, _⟩ := x
  rw [e, hb] at h
  cases h
theorem stp_same (x : Bag H b l) (h : Same H H') : Stp b l H H' := ⟨same_keep h, x.same h⟩
theorem Stp.same {H2 : Hp} (x : Stp b l H H1) (h : Same H1 H2) : Stp b l H H2 := ⟨keep_trans x.1 (same_keep h), x.2.same h⟩
theorem Stp.add (x : Stp b l H H1) (h : H1 p = none) : Stp b l H (upd H1 p o) := ⟨keep_add x.1 h, x.2.new h⟩
theorem Stp.put (x : Stp b l H H1) (y : Bag H b l) (h : H p = none) : Stp b l H (upd H1 p o) := ⟨keep_put x.1 h, x.2.put (y.ne h) (y.ne2 h)⟩
theorem keep_free (e : Keep b H H') (n : p ≠ b) (h : H' p = none) : H p = none := by
  cases q : H p with
  | none => rfl
  | some o =>
    rw [e p o n q] at h
    cases h
theorem Stp.free (e : Stp b l H H') (h : H' p = none) : H p = none := keep_free e.1 (e.2.ne h) h
end

def spBag (K : PySem.W.Frag) : Sp := fun vs H Q _ => ∃ (a : Addr) (ns : List Int), vs = [.ref a] ∧ SqL K H a (ns.map V.int) ∧
  ∀ H' b l, Same H H' → H b = none → Bag H' b l → Q (.ref b) H'
def spPull : Sp := fun vs H Q _ => ∃ (b l : Addr) (n : Int), vs = [.ref b, .int n] ∧ Bag H b l ∧ 0 < n ∧ n < 1073741824 ∧
  ∀ H' (d : Int), Stp b l H H' → 0 ≤ d → d < n → Q (.int d) H'
def spOf : Sp := fun vs H Q _ => ∃ (b l a : Addr) (xs : List V), vs = [.ref b, .ref a] ∧ Bag H b l ∧ H a = some (.lst xs) ∧ a ≠ b ∧ 0 < xs.length ∧ xs.length ≤ 1000 ∧
  ∀ H' (d : Nat) x, Stp b l H H' → xs[d]? = some x → Q x H'
def IsP (p : Int) : Prop := p = 2 ∨ p = 3 ∨ p = 5 ∨ p = 7
def spPrime : Sp := fun vs H Q _ => ∃ (b l : Addr), vs = [.ref b] ∧ Bag H b l ∧ ∀ H' p, Stp b l H H' → IsP p → Q (.int p) H'
def spFigs : Sp := fun vs H Q _ => ∃ (b l : Addr) (p n : Int), vs = [.ref b, .int p, .int n] ∧ Bag H b l ∧ 0 < p ∧ p < 1000 ∧ 0 ≤ n ∧ n < 1000 ∧
  ∀ H' t (ds : List Int), Stp b l H H' → H t = none → H' t = some (.tup (ds.map V.int)) → (ds.length : Int) = n → (∀ d ∈ ds, 0 ≤ d ∧ d < p) → Q (.ref t) H'
/-- a state as it stands: a pair of its turn and the tuple of its targets -/
def StAt (H : Hp) (v : V) (s : Int × List Int) : Prop := ∃ a g, v = .ref a ∧ H a = some (.tup [.int s.1, .ref g]) ∧ H g = some (.tup (s.2.map V.int))
def StsAt (H : Hp) (xs : List V) (M : List (Int × List Int)) : Prop := xs.length = M.length ∧ ∀ (i : Nat) x s, xs[i]? = some x → M[i]? = some s → StAt H x s
structure OkM (p n : Int) (M : List (Int × List Int)) : Prop where
  turn : ∀ s ∈ M, 0 ≤ s.1 ∧ s.1 < p
  many : ∀ s ∈ M, (s.2.length : Int) = p
  goal : ∀ s ∈ M, ∀ g ∈ s.2, 0 ≤ g ∧ g < n
theorem StAt.keep {b l : Addr} {H H' : Hp} {v : V} {s : Int × List Int} (x : StAt H v s) (B : Bag H b l) (k : Keep b H H') : StAt H' v s := by
  obtain ⟨a, g, rfl, h1, h2⟩ := x
  exact ⟨a, g, rfl, k a _ (B.tup h1) h1, k g _ (B.tup h2) h2⟩
theorem StsAt.keep {b l : Addr} {H H' : Hp} {xs : List V} {M : List (Int × List Int)} (x : StsAt H xs M) (B : Bag H b l) (k : Keep b H H') : StsAt H' xs M := ⟨x.1, fun i v s h1 h2 => (x.2 i v s h1 h2).keep B k⟩
theorem StAt.same {H H' : Hp} {v : V} {s : Int × List Int} (x : StAt H v s) (k : Same H H') : StAt H' v s := by
  obtain ⟨a, g, rfl, h1, h2⟩ := x
  exact ⟨a, g, rfl, k a _ h1, k g _ h2⟩
theorem StsAt.same {H H' : Hp} {xs : List V} {M : List (Int × List Int)} (x : StsAt H xs M) (k : Same H H') : StsAt H' xs M := ⟨x.1, fun i v s h1 h2 => (x.2 i v s h1 h2).same k⟩
theorem StsAt.snoc {H : Hp} {xs : List V} {M : List (Int × List Int)} {v : V} {s : Int × List Int} (x : StsAt H xs M) (y : StAt H v s) : StsAt H (xs ++ [v]) (M ++ [s]) := by
  refine ⟨by simp [x.1], fun i u t h1 h2 => ?_⟩
  by_cases c : i < xs.length
  · rw [List.getElem?_append_left c] at h1
    rw [List.getElem?_append_left (by rw [← x.1]; exact c)] at h2
    exact x.2 i u t h1 h2
  · rw [List.getElem?_append_right (by omega)] at h1
    rw [List.getElem?_append_right (by rw [← x.1]; omega), ← x.1] at h2
    have e : i - xs.length = 0 := by
      rcases Nat.eq_zero_or_pos (i - xs.length) with e | e
      · exact e
      · rw [List.getElem?_eq_none (by simp; omega)] at h1; cases h1
    rw [e] at h1 h2
    obtain rfl := Option.some.inj h1
    obtain rfl := Option.some.inj h2
    exact y
theorem StAt.lst {H : Hp} {v : V} {s : Int × List Int} {r : Addr} {ys zs : List V} (x : StAt H v s) (h : H r = some (.lst ys)) : StAt (upd H r (.lst zs)) v s := by
  obtain ⟨a, g, rfl, h1, h2⟩ := x
  have n1 : a ≠ r := ne_of h1 h (by intro q; cases q)
  have n2 : g ≠ r := ne_of h2 h (by intro q; cases q)
  exact ⟨a, g, rfl, by rw [upd_ne n1]; exact h1, by rw [upd_ne n2]; exact h2⟩
theorem StsAt.lst {H : Hp} {xs : List V} {M : List (Int × List Int)} {r : Addr} {ys zs : List V} (x : StsAt H xs M) (h : H r = some (.lst ys)) : StsAt (upd H r (.lst zs)) xs M := ⟨x.1, fun i v s h1 h2 => (x.2 i v s h1 h2).lst h⟩
theorem IsP.two {p : Int} (h : IsP p) : 2 ≤ p ∧ p ≤ 7 := by
  rcases h with h | h | h | h <;> omega
def spPlain : Sp := fun vs H Q _ => ∃ (b l : Addr) (p n : Int), vs = [.ref b, .int p, .int n] ∧ Bag H b l ∧ IsP p ∧ 0 < n ∧ n < 100 ∧
  ∀ H' t r xs M (st : Int), Stp b l H H' → H t = none → H r = none → H' t = some (.tup [.int p, .ref r, .int st]) → H' r = some (.lst xs) → StsAt H' xs M → OkM p (M.length : Int) M → 0 < M.length → (M.length : Int) ≤ n → 0 ≤ st → st < (M.length : Int) → Q (.ref t) H'
end Tw
namespace Tw
open PySem PySem.Spec PyProof.Rows L2

/-! ### zip of a tuple and a list -/
def ItzM (K : PySem.W.Frag) (a b : Addr) : It where
  go := fun i H => ∃ (xs ys : List V) (x y : V), SqT K H a xs ∧ SqL K H b ys ∧ xs[i]? = some x ∧ ys[i]? = some y
  yld := fun i H v H' => ∃ T x y, v = .ref T ∧ H T = none ∧ H' = upd H T (.tup [x, y]) ∧ (∀ xs, SqT K H a xs → xs[i]? = some x) ∧ (∀ ys, SqL K H b ys → ys[i]? = some y)
  stop := fun i H => ∃ xs ys : List V, SqT K H a xs ∧ SqL K H b ys ∧ xs.length = ys.length ∧ xs.length = i
def zM (a b : Addr) (N : Nat) (i : Nat) (h : Heap) : Prop :=
  IsZip h (N + 4) (N + 2) (N + 3) .none ∧ IsTupOf2 h (N + 2) (.ref N) (.ref (N + 1)) ∧ (∃ x y, IsTupOf2 h (N + 3) x y) ∧ h.IsTupleIter N a i ∧ h.IsListIter (N + 1) b i
theorem five {N c : Nat} (h : c ∈ [N + 4, N + 2, N + 3, N, N + 1]) : c = N + 4 ∨ c = N + 2 ∨ c = N + 3 ∨ c = N ∨ c = N + 1 := by simpa using h
theorem fiveLe {N c : Nat} (h : c ∈ [N + 4, N + 2, N + 3, N, N + 1]) : c ≤ N + 4 ∧ N ≤ c := by
  rcases five h with q | q | q | q | q <;> (rw [q]; omega)
theorem turn_zipM {P : Program} {w : World} {K : PySem.W.Frag} {elts : List Expr} {kk : Nat} {tpos : Pos} {a b N : Nat} (la : a < N) (lb : b < N) :
    Turn P w K (.Tuple elts kk tpos) (ItzM K a b) [N + 4, N + 2, N + 3, N, N + 1] (N + 4) (zM a b N) where
  mem := by simp
  obj := fun i h st c hc => by
    obtain ⟨hz, hTI, ⟨x, y, hTO⟩, ⟨o1, e1, _, d1⟩, ⟨o2, e2, _, d2⟩⟩ := st
    rcases five hc with q | q | q | q | q <;> subst q
    · exact ⟨_, hz, fun v q => nomatch q⟩
    · exact ⟨_, hTI, fun v q => nomatch q⟩
    · exact ⟨_, hTO, fun v q => nomatch q⟩
    · exact ⟨o1, e1, fun v q => by rw [d1] at q; cases q⟩
    · exact ⟨o2, e2, fun v q => by rw [d2] at q; cases q⟩
  keep := fun i h h' st k => by
    obtain ⟨hz, hTI, ⟨x, y, hTO⟩, h1, h2⟩ := st
    exact ⟨k _ (by simp) _ hz, k _ (by simp) _ hTI, ⟨x, y, k _ (by simp) _ hTO⟩,
      h1.at fun o q => k _ (by simp) o q, h2.at fun o q => k _ (by simp) o q⟩
  item := by
    intro X hP hw hK hc i pins s σ H E I hf st hg
    subst hP hw hK
    obtain ⟨hz, hTI, ⟨x0, y0, hTO⟩, h1, h2⟩ := st
    obtain ⟨xs, ys, x, y, hqx, hqy, hx, hy⟩ := hg
    obtain ⟨its, rv, p, _⟩ := I.tuple hqx
    obtain ⟨its2, rv2, p2, _⟩ := I.list hqy
    obtain ⟨u, hu, ru⟩ := rv.get hx
    obtain ⟨u2, hu2, ru2⟩ := rv2.get hy
    have l1 : i < its.toArray.size := by simpa using (List.getElem?_eq_some_iff.mp hu).1
    have l2 : i < its2.toArray.size := by simpa using (List.getElem?_eq_some_iff.mp hu2).1
    have hh : X.A.in1.handled = none := I.ok.hd hc
    have hzl : N + 4 < s.heap.objs.size := Heap.lt_size hz
    have hN : N < s.heap.objs.size := Nat.lt_of_le_of_lt (Nat.le_add_right N 4) hzl
    have S := zip_sep2 (N := N) (fp1 := [a]) (fp2 := [b]) (fun c hc => by rw [List.mem_singleton.mp hc]; exact la) (fun c hc => by rw [List.mem_singleton.mp hc]; exact lb)
    refine wpAny_pyNext_zipD2_item S (Draws.tuple hh N a (Nat.ne_of_lt la) its.toArray) (Draws.list hh (N + 1) b (Nat.ne_of_lt (Nat.lt_succ_of_lt lb)) its2.toArray) hz hTI hTO
      ⟨h1, (show s.heap.IsTuple a its.toArray from p)⟩ ⟨h2, p2.isList⟩ l1 l2 fun x1 x2 h' tk y1 y2 z' TO' s1' s2' hT hsz hk => ?_
    have e1 : x1 = u := by simpa [hu] using y1.symm
    have e2 : x2 = u2 := by simpa [hu2] using y2.symm
    subst e1 e2
    refine ⟨_, rfl, wpAny_letOwnedTupleGo_zip (s := { s with heap := h', toks := tk }) z' fun h'' z'' sb => ?_⟩
    have hT2 := (sb.2 _ (Nat.ne_of_gt hzl)).trans hT
    have new : ObjOk X.prog X.w (upd H s.heap.objs.size (.tup [x, y])) h'' s.heap.objs.size (.tup [x, y]) :=
      ⟨by show 2 ≤ sizeLine; decide, [x1, x2], .cons ru (.cons ru2 .nil), _, hT2, rfl, _, rfl⟩
    have kk : ∀ c o, c ∉ [N + 4, N + 2, N + 3, N, N + 1] → s.heap.get? c = some o → h''.get? c = some o := fun c o hb q =>
      (sb.2 c (fun e => hb (by simp [e]))).trans (hk c o (fun e => hb (by simp [e])) (fun e => hb (by simp [e])) (fun e => hb (by simp [e])) (fun e => hb (by simp [e])) q)
    have I1 := I.turnedNew (t' := tk) kk hf (Nat.le_refl _) new
    refine ⟨.ref s.heap.objs.size, _, I1, rfl, ⟨_, x, y, rfl, I.hok.fresh (Nat.le_refl _), rfl, fun l hl => by rw [I.tuple_inj hl hqx]; exact hx, fun l hl => by rw [I.list_inj hl hqy]; exact hy⟩, ⟨z'', ?_, ⟨x1, x2, ?_⟩, ?_, ?_⟩, fun c hcm => ?_⟩
    · have n1 : N + 2 ≠ N + 4 := by omega
      exact (sb.2 _ n1).trans (hk _ _ n1 (by show (N + 2 : Nat) ≠ N + 3; omega) (by show (N + 2 : Nat) ≠ N; omega) (by show (N + 2 : Nat) ≠ N + 1; omega) hTI)
    · exact (sb.2 _ (by show (N + 3 : Nat) ≠ N + 4; omega)).trans TO'
    · exact s1'.1.at fun o q => (sb.2 _ (by show (N : Nat) ≠ N + 4; omega)).trans q
    · exact s2'.1.at fun o q => (sb.2 _ (by show (N + 1 : Nat) ≠ N + 4; omega)).trans q
    · have hlt : c < s.heap.objs.size := Nat.lt_of_le_of_lt (fiveLe hcm).1 hzl
      rw [upd_ne (Nat.ne_of_lt hlt)]
      exact (hf c hcm).1
  done := by
    intro X hP hw hK hc i pins s σ H E I hf st hg
    subst hP hw hK
    obtain ⟨hz, hTI, ⟨x0, y0, hTO⟩, h1, h2⟩ := st
    obtain ⟨xs, ys, hqx, hqy, he, hi⟩ := hg
    obtain ⟨its, rv, p, _⟩ := I.tuple hqx
    obtain ⟨its2, rv2, p2, _⟩ := I.list hqy
    have l1 := rv.length
    have l2 := rv2.length
    have e1 : i = its.toArray.size := by simp; omega
    have e2 : i = its2.toArray.size := by simp; omega
    have hh : X.A.in1.handled = none := I.ok.hd hc
    have S := zip_sep2 (N := N) (fp1 := [a]) (fp2 := [b]) (fun c hc => by rw [List.mem_singleton.mp hc]; exact la) (fun c hc => by rw [List.mem_singleton.mp hc]; exact lb)
    refine wpAny_pyNext_zipD2_end S (Draws.tuple hh N a (Nat.ne_of_lt la) its.toArray) (Draws.list hh (N + 1) b (Nat.ne_of_lt (Nat.lt_succ_of_lt lb)) its2.toArray) hz hTI hTO
      ⟨h1, (show s.heap.IsTuple a its.toArray from p)⟩ ⟨h2, p2.isList⟩ (Nat.le_of_eq e1) (Nat.le_of_eq e2) (.inl e1) fun h' tk hk => ⟨rfl, I.turnedL (t' := tk) (ch := [N + 4, N + 2, N + 3, N, N + 1]) (fun c o hb q => ?_) hf⟩
    exact hk c o (fun e => hb (by simp [e])) (fun e => hb (by simp [e])) (fun e => hb (by simp [e])) (fun e => hb (by simp [e])) q
  self := fun A i s Q E st h => wpAny_pyIter_zip st.1 h
def iZipM (K : PySem.W.Frag) (ta : TA) : TI := fun σ H R => ta σ H fun vs H1 => ∃ a b xs ys, vs = [.ref a, .ref b] ∧ SqT K H1 a xs ∧ SqL K H1 b ys ∧ R (ItzM K a b) H1
theorem pi_zipM {X : Cx} {e e2 : Expr} {ta : TA} {p pos tpos : Pos} {elts : List Expr} {kk : Nat} (hg : Gl X "zip") (hm : X.mg "zip" = none) (ha : PA X [e, e2] ta)
    (hs : starEach [e, e2] X.env = (false, eval e X.env) :: starEach [e2] X.env := by rfl) (hpl : (backTo pos (starEach [e2] X.env)).any (·.1) = false := by rfl) :
    PI X (.Tuple elts kk tpos) (.Call (.Name "zip" p) [e, e2] [] pos) (iZipM X.K ta) := by
  refine ⟨fun pins s σ H R I h => ?_⟩
  refine Call_ (ld_blt I hg hm boot_zip (callWith_type1 (thn (ha.run pos pins s σ H _ I h) fun us s1 ⟨vs, H1, I1, r1, q1⟩ => ?_) hs hpl))
  obtain ⟨a, b, xs, ys, rfl, hqx, hqy, q⟩ := q1
  obtain ⟨u1, u2, rfl, r1, r2⟩ : ∃ u1 u2, us = [u1, u2] ∧ RelV (.ref a) u1 ∧ RelV (.ref b) u2 := by
    cases r1 with
    | cons r rr => cases rr with
      | cons r' rr => cases rr; exact ⟨_, _, rfl, r, r'⟩
  cases r1
  cases r2
  obtain ⟨its, rv, p1, _⟩ := I1.tuple hqx
  obtain ⟨its2, rv2, p2, _⟩ := I1.list hqy
  have la : a < s1.heap.objs.size := by
    obtain ⟨o, ho, _⟩ := id p1
    exact Heap.lt_size ho
  refine zip_begins2 (begins_tuple a its.toArray) (begins_list b its2.toArray) (show s1.heap.IsTuple a its.toArray from p1) p2.isList fun h' hz hTI hTO h1 h2 hsz hk => wpAny_pyIter_zip hz ?_
  refine ⟨s1.heap.objs.size + 4, _, zM a b s1.heap.objs.size, ItzM X.K a b, H1, rfl, I1.kept (t' := s1.toks) hk, turn_zipM la p2.lt, ⟨hz, hTI, ⟨_, _, hTO⟩, ⟨_, h1, rfl, rfl⟩, ⟨_, h2, rfl, rfl⟩⟩, fun c hc => ?_, q⟩
  have hle : s1.heap.objs.size ≤ c := (fiveLe hc).2
  exact I1.fpOk hle (I1.hok.fresh hle)
end Tw
namespace Tw
open PySem PySem.Spec PyProof.Rows L2
section
variable {P : Program} {w : World} {K : PySem.W.Frag} {mg : Str → Option Value} {base : Heap} {j k n : Nat} {X : Cx} {NS WS : List (Str × Nat)} {G : List Str} {x m : Str} {i : Nat} {p pos apos : Pos} {e o : Expr} {es : List Expr} {t tk : TA} {ps ks : List Str} {sp : Sp} {te ta : TE} {C : Addr} {kws : List Keyword}
/-- a name of the module, as a value -/
theorem n_gl {v : V} {u : Value} (h : Nm P w K mg base j X NS WS G) (hm : mg x = some u) (r : RelV v u) (hg : x ∈ G) : PE X (.Name x pos) (tC v) := pe_glob (h.gl x hg).1 (by rw [h.em]; exact hm) r (h.gl x hg).2.1
theorem n_glR {a : Addr} (h : Nm P w K mg base j X NS WS G) (hm : mg x = some (.ref a)) (hg : x ∈ G) : PE X (.Name x pos) (tC (.ref a)) := n_gl h hm rfl hg
theorem n_glI {z : Int} {tz : Tok} (h : Nm P w K mg base j X NS WS G) (hm : mg x = some (.int z tz)) (hg : x ∈ G) : PE X (.Name x pos) (tC (.int z)) := n_gl h hm ⟨_, rfl⟩ hg
/-- a built-in name, as a value -/
theorem n_bv {v : V} {u : Value} (h : Nm P w K mg base j X NS WS G) (hm : mg x = none) (hv : bootBuiltins x = some u) (r : RelV v u) (hg : x ∈ G) : PE X (.Name x pos) (tC v) := pe_bltn (h.gl x hg).1 (by rw [h.em]; exact hm) hv r (h.gl x hg).2.2 (h.gl x hg).2.1
theorem n_zip {e2 : Expr} {elts : List Expr} {kk : Nat} {tpos : Pos} (h : Nm P w K mg base j X NS WS G) (hm : mg "zip" = none) (hg : ("zip" : Str) ∈ G) (ha : PA X [e, e2] t)
    (hs : starEach [e, e2] X.env = (false, eval e X.env) :: starEach [e2] X.env := by rfl) (hpl : (backTo pos (starEach [e2] X.env)).any (·.1) = false := by rfl) : PI X (.Tuple elts kk tpos) (.Call (.Name "zip" p) [e, e2] [] pos) (iZipM X.K t) :=
  pi_zipM (h.gl _ hg).1 (by rw [h.em]; exact hm) ha hs hpl
theorem n_enum {elts : List Expr} {kk : Nat} {tpos : Pos} (h : Nm P w K mg base j X NS WS G) (hm : mg "enumerate" = none) (hg : ("enumerate" : Str) ∈ G) (ha : PA X [e] t) (hs : starEach [e] X.env = [(false, eval e X.env)] := by rfl) :
    PI X (.Tuple elts kk tpos) (.Call (.Name "enumerate" p) [e] [] pos) (iEnum X.K t) := pi_enum (h.gl _ hg).1 (by rw [h.em]; exact hm) ha hs

/-! ### methods, calls of instances, properties, new instances -/
structure Mf (P : Program) (w : World) (K : PySem.W.Frag) (mg : Str → Option Value) (base : Heap) (k : Nat) (C : Addr) (m : Str) (ps : List Str) (sp : Sp) : Prop where
  ex : ∃ f fd, Meth K C m f ∧ Binds K fd ps [] ∧ FnOk P w K mg base CX0 k f fd ps sp
def tM (C : Addr) (m : Str) (sp : Sp) (ta : TE) (t : TA) : TE := fun σ H Q => ta σ H fun x H1 => ∃ a dx fs, x = .ref a ∧ H1 a = some (.ins C dx fs) ∧ fs.lookup m = none ∧ t σ H1 fun vs H2 => sp (.ref a :: vs) H2 Q E0
theorem n_m {pl : Sem Bool} (h : Nm P w K mg base j X NS WS G) (c : Cls K C) (M : Mf P w K mg base k C m ps sp) (hk : k ≤ j) (he : PE X o ta) (ha : PA X (e :: es) t)
    (hst : starEach (e :: es) X.env = (false, eval e X.env) :: starEach es X.env := by rfl) (hpl : (backTo pos (starEach es X.env)).any (·.1) = false := by rfl)
    (ht : eval (.Call (.Attribute o m apos) (e :: es) [] pos) X.env = (do
      let ov ← eval o X.env; standAt apos.atName; let (f, first) ← holding [ov] (getMethod ov m pl)
      callWith pos f first (backTo pos (starEach (e :: es) X.env)) (backToKw pos (keywordEach [] X.env))) := by rfl) : PE X (.Call (.Attribute o m apos) (e :: es) [] pos) (tM C m sp ta t) := by
  obtain ⟨h1, h2, h3, h4, h5, hr, _, _, _, _, hgl⟩ := h
  subst h1 h2 h3 h4 h5
  obtain ⟨f, fd, hm, hb, F⟩ := M.ex
  refine ⟨fun pins s σ H Q I h => (pe_meth he c hm F (hr.mono hk) hb .nil pass0 ha hst hpl ht).run pins s σ H Q I ?_⟩
  have e : tMeth C m sp [] E0 ta t σ H Q = tM C m sp ta t σ H Q := by
    unfold tMeth tM
    refine congrArg (ta σ H) (funext fun x => funext fun H1 => ?_)
    simp only [List.append_nil]
    apply propext
    constructor
    · rintro ⟨a, dx, fs, rfl, q⟩; exact ⟨a, dx, fs, rfl, q⟩
    · rintro ⟨a, dx, fs, rfl, q⟩; exact ⟨a, dx, fs, rfl, q⟩
  rw [e]
  exact h
theorem n_m0 {pl : Sem Bool} (h : Nm P w K mg base j X NS WS G) (c : Cls K C) (M : Mf P w K mg base k C m ps sp) (hk : k ≤ j) (he : PE X o ta)
    (ht : eval (.Call (.Attribute o m apos) [] [] pos) X.env = (do
      let ov ← eval o X.env; standAt apos.atName; let (f, first) ← holding [ov] (getMethod ov m pl)
      callWith pos f first (backTo pos (starEach [] X.env)) (backToKw pos (keywordEach [] X.env))) := by rfl) : PE X (.Call (.Attribute o m apos) [] [] pos) (tM C m sp ta tNil) := by
  obtain ⟨h1, h2, h3, h4, h5, hr, _, _, _, _, hgl⟩ := h
  subst h1 h2 h3 h4 h5
  obtain ⟨f, fd, hm, hb, F⟩ := M.ex
  refine ⟨fun pins s σ H Q I h => (pe_meth0 he c hm F (hr.mono hk) hb .nil pass0 ht).run pins s σ H Q I ?_⟩
  have e : tMeth C m sp [] E0 ta tNil σ H Q = tM C m sp ta tNil σ H Q := by
    unfold tMeth tM
    refine congrArg (ta σ H) (funext fun x => funext fun H1 => ?_)
    simp only [List.append_nil]
    apply propext
    constructor
    · rintro ⟨a, dx, fs, rfl, q⟩; exact ⟨a, dx, fs, rfl, q⟩
    · rintro ⟨a, dx, fs, rfl, q⟩; exact ⟨a, dx, fs, rfl, q⟩
  rw [e]
  exact h
/-- o.m(k = v, ..): keywords alone -/
structure MfK (P : Program) (w : World) (K : PySem.W.Frag) (mg : Str → Option Value) (base : Heap) (k : Nat) (C : Addr) (m : Str) (ps ks : List Str) (gV : List V → List V → List V) (sp : Sp) : Prop where
  ex : ∃ f fd g, Meth K C m f ∧ KBn K fd ps 1 ks g gV ∧ FnOk P w K mg base CX0 k f fd ps sp
def tMK (C : Addr) (m : Str) (q : Nat) (gV : List V → List V → List V) (sp : Sp) (ta : TE) (tk : TA) : TE := fun σ H Q => ta σ H fun x H1 => ∃ a dx fs, x = .ref a ∧ H1 a = some (.ins C dx fs) ∧ fs.lookup m = none ∧ tk σ H1 fun zs H2 => zs.length = q ∧ sp (gV [.ref a] zs) H2 Q E0
theorem n_mK {pl : Sem Bool} {gV : List V → List V → List V} (h : Nm P w K mg base j X NS WS G) (c : Cls K C) (M : MfK P w K mg base k C m ps ks gV sp) (hk : k ≤ j) (he : PE X o ta) (hkw : PK X kws tk)
    (hall : (backToKw pos (keywordEach kws X.env)).all (·.1.isSome) = true := by rfl) (hks : (backToKw pos (keywordEach kws X.env)).filterMap (·.1) = ks := by rfl)
    (hpl : ((backTo pos (starEach [] X.env)).any (·.1) || (backToKw pos (keywordEach kws X.env)).any (·.1.isNone)) = false := by rfl)
    (ht : eval (.Call (.Attribute o m apos) [] kws pos) X.env = (do
      let ov ← eval o X.env; standAt apos.atName; let (f, first) ← holding [ov] (getMethod ov m pl)
      callWith pos f first (backTo pos (starEach [] X.env)) (backToKw pos (keywordEach kws X.env))) := by rfl) : PE X (.Call (.Attribute o m apos) [] kws pos) (tMK C m ks.length gV sp ta tk) := by
  obtain ⟨h1, h2, h3, h4, h5, hr, _, _, _, _, hgl⟩ := h
  subst h1 h2 h3 h4 h5
  obtain ⟨f, fd, g, hm, hb, F⟩ := M.ex
  refine ⟨fun pins s σ H Q I h => ?_⟩
  refine PySem.W.methodCall_KW (pl := pl) (thn (he.run pins s σ H _ I h) fun u s1 ⟨x, H1, I1, rx, a, dx, fs, ex, ea, l, q⟩ => ?_) ht
  subst ex
  obtain rfl : u = Value.ref a := rx
  refine getmeth_ok I1 ea c hm l ?_
  refine PySem.W.callWith_KW0 (first := [.ref a]) (h₀ := X.base) I.ok.mod.kin hm.kp hall ?_ hpl
  refine thn (hkw.run pos pins s1 σ H1 _ I1 q) fun ws s2 ⟨zs, H2, I2, rz, l2, q2⟩ => ⟨I2.kIn, ?_⟩
  rw [hks]
  exact run_fnN (us := [.ref a]) (vs := [.ref a]) F (hr.mono hk) hb pass0 I2 (.cons rfl .nil) rz rfl l2 q2
end
end Tw
namespace Tw
open PySem PySem.Spec PyProof.Rows L2
section
variable {P : Program} {w : World} {K : PySem.W.Frag} {mg : Str → Option Value} {base : Heap} {j k n : Nat} {X : Cx} {NS WS : List (Str × Nat)} {G : List Str} {x m : Str} {i : Nat} {p pos apos : Pos} {e o : Expr} {es : List Expr} {t tk : TA} {ps ks : List Str} {sp : Sp} {te ta : TE} {C : Addr} {kws : List Keyword}
/-- C(e, .., k = v, ..) -/
structure Kf (P : Program) (w : World) (K : PySem.W.Frag) (mg : Str → Option Value) (base : Heap) (k : Nat) (C : Addr) (n : Nat) (ps ks : List Str) (gV : List V → List V → List V) (sp : Sp) : Prop where
  ex : ∃ f fd g, Mk K C f ∧ KBn K fd ps (n + 1) ks g gV ∧ FnOk P w K mg base CX0 k f fd ps sp
theorem n_mk {gV : List V → List V → List V} (h : Nm P w K mg base j X NS WS G) (hm : mg x = some (.ref C)) (M : Kf P w K mg base k C n ps ks gV sp) (hk : k + 1 ≤ j) (hg : x ∈ G) (ha : PA X (e :: es) t) (hkw : PK X kws tk)
    (hall : (backToKw pos (keywordEach kws X.env)).all (·.1.isSome) = true := by rfl) (hks : (backToKw pos (keywordEach kws X.env)).filterMap (·.1) = ks := by rfl)
    (he : starEach (e :: es) X.env = (false, eval e X.env) :: starEach es X.env := by rfl)
    (hpl : ((backTo pos (starEach (e :: es) X.env)).any (·.1) || (backToKw pos (keywordEach kws X.env)).any (·.1.isNone)) = false := by rfl) :
    PE X (.Call (.Name x p) (e :: es) kws pos) (tMakeN C n ks.length sp gV E0 t tk) := by
  obtain ⟨h1, h2, h3, h4, h5, hr, _, _, _, _, hgl⟩ := h
  subst h1 h2 h3 h4 h5
  obtain ⟨f, fd, g, hM, hb, F⟩ := M.ex
  exact pe_makeN hM F (hr.mono hk) (hgl x hg).1 hm hb pass0 ha hkw hall hks (hgl x hg).2.1 he hpl

/-- f(e, ..), f an instance of C -/
structure Cf (P : Program) (w : World) (K : PySem.W.Frag) (mg : Str → Option Value) (base : Heap) (k : Nat) (C : Addr) (ps : List Str) (sp : Sp) : Prop where
  ex : ∃ f fd, StX.CallO K C f ∧ Binds K fd ps [] ∧ FnOk P w K mg base CX0 k f fd ps sp
def tCO (C : Addr) (sp : Sp) (tf : TE) (t : TA) : TE := fun σ H Q => tf σ H fun y H1 => ∃ a, y = V.ref a ∧ t σ H1 fun vs H2 => (∃ dx fs, H2 a = some (.ins C dx fs)) ∧ sp (V.ref a :: vs) H2 Q E0
theorem run_args {X : Cx} {k : Nat} {f : Addr} {fd : FuncData} {ps : List Str} {sp : Sp} {pins : List (Addr × Obj)} {σ : L2.St} {H : Hp} {s : Shared} {Q : VK} {us : List Value} {vs : List V} (F : FnOk X.prog X.w X.K X.mg X.base CX0 k f fd ps sp) (hr : Room k X.A) (hb : Binds X.K fd ps [])
    (I : Inv X pins σ H s) (r : Vals vs us) (h : sp vs H Q E0) : codeAny (model X.prog X.w) X.A (.call (.ref f) ⟨us, []⟩) (fun r s' => match r with | .ok (.ret u) => EP X pins σ Q u s' | _ => False) s := by
  have hl : (us ++ []).length = ps.length := by rw [List.append_nil, ← r.length]; exact F.len _ _ _ _ h
  have hb2 := hb s us I.kIn hl
  rw [List.append_nil] at hb2
  refine codeAny_mono (F.run X.A X.stack s H ⟨us, []⟩ us vs Q E0 hr I.env0 hb2 r h) fun r s' hq => ?_
  cases r with
  | error e => exact hq
  | ok fl =>
    cases fl with
    | ret u => exact I.after hq
    | next => exact hq
    | brk => exact hq
    | cont => exact hq
theorem n_co {tf : TE} {fe : Expr} (h : Nm P w K mg base j X NS WS G) (M : Cf P w K mg base k C ps sp) (hk : k ≤ j) (hf : PE X fe tf) (ha : PA X (e :: es) t)
    (ht : eval (.Call fe (e :: es) [] pos) X.env = (do callWith pos (← eval fe X.env) [] (backTo pos (starEach (e :: es) X.env)) (backToKw pos (keywordEach [] X.env))) := by rfl)
    (he : starEach (e :: es) X.env = (false, eval e X.env) :: starEach es X.env := by rfl) (hpl : (backTo pos (starEach es X.env)).any (·.1) = false := by rfl) : PE X (.Call fe (e :: es) [] pos) (tCO C sp tf t) := by
  obtain ⟨h1, h2, h3, h4, h5, hr, _, _, _, _, hgl⟩ := h
  subst h1 h2 h3 h4 h5
  obtain ⟨f, fd, hc, hb, F⟩ := M.ex
  refine ⟨fun pins s σ H Q I h => ?_⟩
  refine Call_ (thn (hf.run pins s σ H _ I h) fun u s1 ⟨y, H1, I1, ry, a, ey, q⟩ => ?_) ht
  subst ey
  obtain rfl : u = Value.ref a := ry
  refine StX.callO_with (thn (ha.run pos pins s1 σ H1 _ I1 q) fun us s2 ⟨vs, H2, I2, r, ⟨dx, fs, hi⟩, q2⟩ => ?_) he hpl
  obtain ⟨ox, od, J, hd⟩ := StX.insC_at I2 (.inr ⟨dx, fs, hi⟩)
  refine ⟨⟨C, ox, od, J, hd⟩, wpAny_call (PySem.W.kco_code I2.kIn J hd hc.at_ hc.fn hc.fi (codeAny_mono (run_args (us := .ref a :: us) (vs := .ref a :: vs) F (hr.mono hk) hb I2 (.cons rfl r) q2) fun r s' hq => ?_))⟩
  cases r with
  | error e => exact hq.elim
  | ok fl =>
    cases fl with
    | ret u => exact hq
    | next => exact hq.elim
    | brk => exact hq.elim
    | cont => exact hq.elim

/-- e.f, a property -/
structure Pf (P : Program) (w : World) (K : PySem.W.Frag) (mg : Str → Option Value) (base : Heap) (k : Nat) (C : Addr) (m : Str) (ps : List Str) (sp : Sp) : Prop where
  ex : ∃ q g fd, PropOf K C m q g ∧ Binds K fd ps [] ∧ FnOk P w K mg base CX0 k g fd ps sp
theorem n_p (h : Nm P w K mg base j X NS WS G) (c : Cls K C) (M : Pf P w K mg base k C m ps sp) (hk : k + 1 ≤ j) (he : PE X e ta) (hb : attributeBase e m X.env (eval e X.env) = eval e X.env := by rfl) : PE X (.Attribute e m pos) (tProp C sp [] E0 ta) := by
  obtain ⟨h1, h2, h3, h4, h5, hr, _, _, _, _, hgl⟩ := h
  subst h1 h2 h3 h4 h5
  obtain ⟨q, g, fd, hp, hbb, F⟩ := M.ex
  exact pe_prop he c hp F (hr.mono hk) hbb .nil pass0 hb

/-! ### comprehensions that make a list item by item, all else as it was -/
theorem lcT {K : PySem.W.Frag} {a : Addr} {xs fs : List V} {i : Nat} {te : TE} {vs : List Nat} {σ : L2.St} {H1 : Hp} {D : Addr} {Qd : Hp → Prop} (hT : SqT K H1 a xs) (hD : H1 D = none) (hl : fs.length = xs.length) (hz : xs.length < sizeLine)
    (he : ∀ (j : Nat) x y H' (Qk : V → Hp → Prop), xs[j]? = some x → fs[j]? = some y → Same H1 H' → (∀ H2, Same H' H2 → Qk y H2) → te ((wipe σ vs).set i (some x)) H' Qk) (hd : ∀ H', Same H1 H' → H' D = some (.lst fs) → Qd H')
    (hw : ∀ x, wipe ((wipe σ vs).set i (some x)) vs = wipe σ vs) :
    ∃ W : Nat → Nat → Hp → Prop, (∃ m, W 0 m (upd H1 D (.lst []))) ∧ ∀ i' m H, W i' m H →
      ((Itt K a).stop i' H ∧ Qd H) ∨ ((Itt K a).go i' H ∧ ∃ Nx : Hp → Prop, (∀ H', Nx H' → ∃ m', m' < m ∧ W (i' + 1) m' H') ∧ ∀ x H', (Itt K a).yld i' H x H' → gName i x (wipe σ vs) H' fun σ2 H2 => wipe σ2 vs = wipe σ vs ∧ tYes σ2 H2 fun b H3 =>
        if b = true then te σ2 H3 fun y H4 => ∃ acc, H4 D = some (.lst acc) ∧ acc.length < sizeLine ∧ Nx (upd H4 D (.lst (acc ++ [y]))) else Nx H3) := by
  have st : ∀ H, Same H1 H → SqT K H a xs := fun H e => by
    rcases hT with (h | ⟨o, h⟩) | h
    · exact .inl (.inl (e _ _ h))
    · exact .inl (.inr ⟨o, e _ _ h⟩)
    · exact .inr h
  refine lc_tup (K := K) (a := a) (xs := xs) (fun j H => Same H1 H ∧ H D = some (.lst (fs.take j))) ⟨same_new hD, by rw [upd_same]; rfl⟩ (fun j H _ p => st H p.1) ?_ ?_
  · rintro j x H hx ⟨s1, hDl⟩
    have hj : j < xs.length := (List.getElem?_eq_some_iff.mp hx).1
    have hy : fs[j]? = some fs[j] := List.getElem?_eq_getElem (by omega)
    refine ⟨hw x, yes_ ?_⟩
    refine he j x _ H _ hx hy s1 fun H2 s2 => ⟨_, s2 _ _ hDl, ?_, same_put (Same.trans s1 s2) hD, ?_⟩
    · rw [List.length_take]; omega
    · rw [upd_same, List.take_add_one, hy]; rfl
  · rintro H ⟨s1, hDl⟩
    rw [← hl, List.take_length] at hDl
    exact hd H s1 hDl
end
end Tw
namespace Tw
open PySem PySem.Spec PyProof.Rows L2
theorem for_enum {K : PySem.W.Frag} {a : Addr} {xs : List V} {g : TG} {tb : TS} {D : Ends} {σ : L2.St} {H : Hp} (Pv : Nat → L2.St → Hp → Prop) (h0 : Pv 0 σ H) (hl : ∀ i σ H, Pv i σ H → SqL K H a xs)
    (hs : ∀ (i : Nat) x T σ H, xs[i]? = some x → Pv i σ H → H T = none → g (.ref T) σ (upd H T (.tup [.int (i : Nat), x])) fun σ2 H2 => tb { D with nx := Pv (i + 1), ct := Pv (i + 1), bk := D.nx } σ2 H2) (hd : ∀ σ H, Pv xs.length σ H → D.nx σ H) :
    ∃ W : Nat → Nat → L2.St → Hp → Prop, (∃ m, W 0 m σ H) ∧ ∀ i m σ H, W i m σ H →
      ((Ite K a).stop i H ∧ D.nx σ H) ∨ ((Ite K a).go i H ∧ ∃ N : L2.St → Hp → Prop, (∀ σ' H', N σ' H' → ∃ m', m' < m ∧ W (i + 1) m' σ' H') ∧ ∀ v H', (Ite K a).yld i H v H' → g v σ H' fun σ2 H2 => tb { D with nx := N, ct := N, bk := D.nx } σ2 H2) := by
  refine ⟨fun i m σ H => m = xs.length - i ∧ i ≤ xs.length ∧ Pv i σ H, ⟨xs.length, rfl, Nat.zero_le _, h0⟩, ?_⟩
  rintro i m σ H ⟨rfl, hi, p⟩
  have q := hl i σ H p
  by_cases c : i < xs.length
  · have hx : xs[i]? = some xs[i] := List.getElem?_eq_getElem c
    refine .inr ⟨⟨xs, xs[i], q, hx⟩, Pv (i + 1), fun σ' H' p' => ⟨xs.length - (i + 1), by omega, rfl, c, p'⟩, ?_⟩
    rintro v H' ⟨T, x, rfl, hT, rfl, hall⟩
    exact hs i x T σ H (hall xs q) p hT
  · have e : i = xs.length := by omega
    subst e
    exact .inl ⟨⟨xs, q, Nat.le_refl _⟩, hd σ H p⟩
/-- a def with keyword-only defaults keeps its promise -/
theorem funD_ok {P : Program} {w : World} {K : PySem.W.Frag} {mg : Str → Option Value} {base : Heap} {x qual : Str} {params : Arguments} {body : List Stmt} {scope : Scope} {dvs : List V} {kws : List (Str × V)} {f : Addr} {fd : FuncData} {N ps : List Str} {k : Nat} {sp : Sp} (F : FunD K x qual params body scope dvs kws f fd)
    (S : FnScope N ps scope) (len : ∀ vs H Q E, sp vs H Q E → vs.length = ps.length)
    (hbody : ∀ (cdv : Value) (A : Around) (outer : List Env) (s : Shared) (H : Hp) (vs : List V) (Q : VK) (E : XK), Room k (A.deeper (envOfC qual scope s.heap.objs.size f cdv)) → sp vs H Q E →
      ∃ t, PSs (cxOf CX0 P w K mg base N qual scope f cdv A outer s H E).nox body t ∧ t { nx := fun _ H' => Q .non H', rt := Q } (start N vs) H) : FnOk P w K mg base CX0 (k + 1) f fd ps sp := by
  obtain ⟨oc, od, dV, kV, doc, pm, an, cdv, ct, osl, rfl, lk, hcd, _, _⟩ := F.ex
  refine fn_of lk hcd S len fun A outer s H vs Q E hr hsp => ?_
  obtain ⟨t, h, q⟩ := hbody cdv A outer s H vs Q E hr hsp
  exact ⟨t, h.nox, q⟩
theorem cut_all {xs : List V} {n : Nat} (h : xs.length ≤ n) : cutV xs none (some (n : Int)) = xs := by
  unfold cutV
  rw [HT.sIx_nat, show HT.sIx xs.length 0 none = 0 from rfl, Nat.min_eq_right h, List.drop_zero, Nat.sub_zero, List.take_length]
end Tw
namespace Tw
open PySem PySem.Spec PyProof.Rows L2
section
variable {P : Program} {w : World} {K : PySem.W.Frag} {mg : Str → Option Value} {base : Heap} {j k n : Nat} {X : Cx} {NS WS : List (Str × Nat)} {G : List Str} {m : Str} {pos : Pos} {a b e : Expr} {ta tb te : TE} {t : TA} {p : Pos} {es : List Expr}
theorem n_ixT (h : Nm P w K mg base j X NS WS G) (ha : PE X a ta) (hb : PE X b tb) (hs : PlainIx b) : PE X (.Subscript a b pos) (tOp (rIxT K) ta tb) := by
  have e := h.eK
  subst e
  exact pe_ix ix_tup ha hb hs
theorem n_ixL (h : Nm P w K mg base j X NS WS G) (ha : PE X a ta) (hb : PE X b tb) (hs : PlainIx b) : PE X (.Subscript a b pos) (tOp (rIxL K) ta tb) := by
  have e := h.eK
  subst e
  exact pe_ix ix_list ha hb hs
theorem n_fldK (h : Nm P w K mg base j X NS WS G) (he : PE X e te) (hb : attributeBase e m X.env (eval e X.env) = eval e X.env := by rfl) : PE X (.Attribute e m pos) (tFld K te m) := by
  have e := h.eK
  subst e
  exact pe_fld he hb
theorem n_tupK {es : List Expr} {k : Nat} {t : TGs} {n : Nat} (h : Nm P w K mg base j X NS WS G) (hp : PGs X es t) (hn : (assignEach es X.env).length = n := by rfl) (hst : (assignEach es X.env).findIdx? (·.1) = none := by rfl) : PG X (.Tuple es k pos) (gTup K n t) := by
  have e := h.eK
  subst e
  exact pg_tup h.calm hp hn hst
theorem n_len (h : Nm P w K mg base j X NS WS G) (hm : mg "len" = none) (hg : ("len" : Str) ∈ G) (ha : PA X (e :: es) t)
    (he : starEach (e :: es) X.env = (false, eval e X.env) :: starEach es X.env := by rfl) (hpl : (backTo pos (starEach es X.env)).any (·.1) = false := by rfl) :
    PE X (.Call (.Name "len" p) (e :: es) [] pos) (tCB (fun xs H Q => ∃ p ys, xs = [.ref p] ∧ (SqL K H p ys ∨ SqT K H p ys) ∧ Q (.int ys.length) H) t) := by
  have e := h.eK
  subst e
  exact n_b h hm call_len_seq PySem.boot_len hg ha he hpl
end
/-! ### the mathematics: the way of a turner and what is behind it -/
abbrev Mach := List (Int × List Int)
def turnM (M : Mach) (s : Int) : Int := (M.getD s.toNat (0, [])).1
def goM (M : Mach) (s d : Int) : Int := (M.getD s.toNat (0, [])).2.getD d.toNat 0
def runM (M : Mach) (s : Int) (ds : List Int) : Int := ds.foldl (goM M) s
def wayM (M : Mach) : Int → List Int → List Int
  | _, [] => []
  | s, d :: r => s :: wayM M (goM M s d) r
def behM (p : Int) (M : Mach) (s : Int) (ds : List Int) : List Int := List.zipWith (fun d q => (d + turnM M q) % p) ds (wayM M s ds)
theorem wayM_len (M : Mach) : ∀ (ds : List Int) (s : Int), (wayM M s ds).length = ds.length
  | [], _ => rfl
  | d :: r, s => by show (wayM M (goM M s d) r).length + 1 = r.length + 1; rw [wayM_len M r]
theorem wayM_snoc (M : Mach) (d : Int) : ∀ (ds : List Int) (s : Int), wayM M s (ds ++ [d]) = wayM M s ds ++ [runM M s ds]
  | [], s => rfl
  | e :: r, s => by
    show s :: wayM M (goM M s e) (r ++ [d]) = s :: (wayM M (goM M s e) r ++ [runM M (goM M s e) r])
    rw [wayM_snoc M d r]
theorem behM_len (p : Int) (M : Mach) (s : Int) (ds : List Int) : (behM p M s ds).length = ds.length := by
  unfold behM
  rw [List.length_zipWith, wayM_len, Nat.min_self]
theorem runM_snoc (M : Mach) (s d : Int) (ds : List Int) : runM M s (ds ++ [d]) = goM M (runM M s ds) d := by
  unfold runM
  rw [List.foldl_append]; rfl
theorem goM_in {p n : Int} {M : Mach} (h : OkM p n M) (hn : (M.length : Int) = n) {s d : Int} (s0 : 0 ≤ s) (s1 : s < n) (d0 : 0 ≤ d) (d1 : d < p) : 0 ≤ goM M s d ∧ goM M s d < n := by
  have hs : s.toNat < M.length := by omega
  have hm : M[s.toNat] ∈ M := List.getElem_mem hs
  have e : M.getD s.toNat (0, []) = M[s.toNat] := by
    rw [List.getD_eq_getElem?_getD, List.getElem?_eq_getElem hs]; rfl
  unfold goM
  rw [e]
  have hd : d.toNat < (M[s.toNat]).2.length := by
    have := h.many _ hm
    omega
  rw [List.getD_eq_getElem?_getD, List.getElem?_eq_getElem hd]
  exact h.goal _ hm _ (List.getElem_mem hd)
theorem runM_in {p n : Int} {M : Mach} (h : OkM p n M) (hn : (M.length : Int) = n) : ∀ (ds : List Int) {s : Int}, 0 ≤ s → s < n → (∀ d ∈ ds, 0 ≤ d ∧ d < p) → 0 ≤ runM M s ds ∧ runM M s ds < n
  | [], s, s0, s1, _ => ⟨s0, s1⟩
  | d :: r, s, s0, s1, f => by
    have q := goM_in h hn s0 s1 (f d List.mem_cons_self).1 (f d List.mem_cons_self).2
    exact runM_in h hn r q.1 q.2 fun x hx => f x (List.mem_cons_of_mem _ hx)
end Tw
namespace Tw
open PySem PySem.Spec PyProof.Rows L2
theorem lcZg {K : PySem.W.Frag} {J : It} {xs ys fs : List V} {i1 i2 : Nat} {te : TE} {vs : List Nat} {σ : L2.St} {H1 : Hp} {D : Addr} {Qd : Hp → Prop} (hlen : xs.length = ys.length) (hD : H1 D = none) (hl : fs.length = xs.length) (hz : xs.length < sizeLine)
    (hgo : ∀ H (j : Nat) x y, Same H1 H → xs[j]? = some x → ys[j]? = some y → J.go j H) (hstop : ∀ H, Same H1 H → J.stop xs.length H)
    (hy : ∀ H (j : Nat) v H', Same H1 H → J.yld j H v H' → ∃ T x y, v = .ref T ∧ H T = none ∧ H' = upd H T (.tup [x, y]) ∧ xs[j]? = some x ∧ ys[j]? = some y)
    (he : ∀ (j : Nat) x y z H' (Qk : V → Hp → Prop), xs[j]? = some x → ys[j]? = some y → fs[j]? = some z → Same H1 H' → (∀ H2, Same H' H2 → Qk z H2) → te (((wipe σ vs).set i1 (some x)).set i2 (some y)) H' Qk) (hd : ∀ H', Same H1 H' → H' D = some (.lst fs) → Qd H')
    (hw : ∀ x y, wipe (((wipe σ vs).set i1 (some x)).set i2 (some y)) vs = wipe σ vs) :
    ∃ W : Nat → Nat → Hp → Prop, (∃ m, W 0 m (upd H1 D (.lst []))) ∧ ∀ i' m H, W i' m H →
      (J.stop i' H ∧ Qd H) ∨ (J.go i' H ∧ ∃ Nx : Hp → Prop, (∀ H', Nx H' → ∃ m', m' < m ∧ W (i' + 1) m' H') ∧ ∀ x H', J.yld i' H x H' → gTup K 2 (gCons (gName i1) (gCons (gName i2) gNil)) x (wipe σ vs) H' fun σ2 H2 => wipe σ2 vs = wipe σ vs ∧ tYes σ2 H2 fun b H3 =>
        if b = true then te σ2 H3 fun y H4 => ∃ acc, H4 D = some (.lst acc) ∧ acc.length < sizeLine ∧ Nx (upd H4 D (.lst (acc ++ [y]))) else Nx H3) := by
  refine ⟨fun j m H => m = xs.length - j ∧ j ≤ xs.length ∧ Same H1 H ∧ H D = some (.lst (fs.take j)), ⟨xs.length, rfl, Nat.zero_le _, same_new hD, by rw [upd_same]; rfl⟩, ?_⟩
  rintro j m H ⟨rfl, hj, s1, hDl⟩
  by_cases c : j < xs.length
  · have hx : xs[j]? = some xs[j] := List.getElem?_eq_getElem c
    have hyy : ys[j]? = some ys[j] := List.getElem?_eq_getElem (by omega)
    have hf : fs[j]? = some fs[j] := List.getElem?_eq_getElem (by omega)
    refine .inr ⟨hgo H j _ _ s1 hx hyy, fun H' => Same H1 H' ∧ H' D = some (.lst (fs.take (j + 1))), fun H' p => ⟨xs.length - (j + 1), by omega, rfl, c, p⟩, ?_⟩
    intro v H' hyl
    obtain ⟨T, x, y, rfl, hT', rfl, ex, ey⟩ := hy H j v H' s1 hyl
    have s2 : Same H (upd H T (.tup [x, y])) := same_new hT'
    refine ⟨T, [x, y], rfl, SqT.of upd_same, rfl, x, [y], rfl, y, [], rfl, rfl, hw x y, yes_ ?_⟩
    refine he j x y _ _ _ ex ey hf (Same.trans s1 s2) fun H2 s3 => ⟨_, s3 _ _ (s2 _ _ hDl), ?_, same_put (Same.trans (Same.trans s1 s2) s3) hD, ?_⟩
    · rw [List.length_take]; omega
    · rw [upd_same, List.take_add_one, hf]; rfl
  · have e : j = xs.length := by omega
    subst e
    rw [← hl, List.take_length] at hDl
    exact .inl ⟨hstop H s1, hd H s1 hDl⟩
theorem sqT_same {K : PySem.W.Frag} {H H' : Hp} {a : Addr} {xs : List V} (e : Same H H') (h : SqT K H a xs) : SqT K H' a xs := by
  rcases h with (h | ⟨o, h⟩) | h
  · exact .inl (.inl (e _ _ h))
  · exact .inl (.inr ⟨o, e _ _ h⟩)
  · exact .inr h
section
variable {P : Program} {w : World} {K : PySem.W.Frag} {mg : Str → Option Value} {base : Heap} {j k n : Nat} {X : Cx} {NS WS : List (Str × Nat)} {G : List Str} {pos p : Pos} {t : TA}
theorem n_zipA {e e2 : Expr} {elts : List Expr} {kk : Nat} {tpos : Pos} (h : Nm P w K mg base j X NS WS G) (hm : mg "zip" = none) (hg : ("zip" : Str) ∈ G) (ha : PA X [e, e2] t)
    (hs : starEach [e, e2] X.env = (false, eval e X.env) :: starEach [e2] X.env := by rfl) (hpl : (backTo pos (starEach [e2] X.env)).any (·.1) = false := by rfl) : PI X (.Tuple elts kk tpos) (.Call (.Name "zip" p) [e, e2] [] pos) (RZ.iZipA K t) := by
  have q := h.eK
  subst q
  exact RZ.pi_zipA (h.gl _ hg).1 (by rw [h.em]; exact hm) ha hs hpl
theorem n_isi {e : Expr} {es : List Expr} (h : Nm P w K mg base j X NS WS G) (hm : mg "isinstance" = none) (hg : ("isinstance" : Str) ∈ G) (ha : PA X (e :: es) t)
    (he : starEach (e :: es) X.env = (false, eval e X.env) :: starEach es X.env := by rfl) (hpl : (backTo pos (starEach es X.env)).any (·.1) = false := by rfl) : PE X (.Call (.Name "isinstance" p) (e :: es) [] pos) (tCB (rIsi K) t) := by
  have q := h.eK
  subst q
  exact n_b h hm call_isi PyProof.Rows.boot_isinstance hg ha he hpl
theorem n_isiT {e : Expr} {es : List Expr} (h : Nm P w K mg base j X NS WS G) (hm : mg "isinstance" = none) (hg : ("isinstance" : Str) ∈ G) (ha : PA X (e :: es) t)
    (he : starEach (e :: es) X.env = (false, eval e X.env) :: starEach es X.env := by rfl) (hpl : (backTo pos (starEach es X.env)).any (·.1) = false := by rfl) : PE X (.Call (.Name "isinstance" p) (e :: es) [] pos) (tCB (rIsiT K) t) := by
  have q := h.eK
  subst q
  exact n_b h hm call_isiT PyProof.Rows.boot_isinstance hg ha he hpl
end
/-! ### equal data of a depth -/
inductive Eqd (K : PySem.W.Frag) (H : Hp) : Nat → V → V → Prop
  | flat {n : Nat} {v : V} (h : flatV v = true) : Eqd K H n v v
  | lst {n : Nat} {a b : Addr} {xs ys : List V} (ha : SqL K H a xs) (hb : SqL K H b ys) (hl : xs.length = ys.length) (hz : xs.length ≤ 1000) (h : ∀ (i : Nat) x y, xs[i]? = some x → ys[i]? = some y → Eqd K H n x y) : Eqd K H (n + 1) (.ref a) (.ref b)
  | tup {n : Nat} {a b : Addr} {xs ys : List V} (ha : SqT K H a xs) (hb : SqT K H b ys) (hl : xs.length = ys.length) (hz : xs.length ≤ 1000) (h : ∀ (i : Nat) x y, xs[i]? = some x → ys[i]? = some y → Eqd K H n x y) : Eqd K H (n + 1) (.ref a) (.ref b)
theorem Eqd.same {K : PySem.W.Frag} {H H' : Hp} (e : Same H H') {n : Nat} {x y : V} (h : Eqd K H n x y) : Eqd K H' n x y := by
  induction h with
  | flat h => exact .flat h
  | lst ha hb hl hz _ ih => exact .lst (Same.seq e ha) (Same.seq e hb) hl hz ih
  | tup ha hb hl hz _ ih => exact .tup (sqT_same e ha) (sqT_same e hb) hl hz ih
theorem ty_l {K : PySem.W.Frag} {H : Hp} {a : Addr} {xs : List V} (h : SqL K H a xs) : TyX K H (.ref a) (.type "list") := by
  rcases h with (h | ⟨o, h⟩) | ⟨o, its, n, h, hc, _⟩
  · exact .base (.lst h)
  · exact .base (.frz h)
  · exact .kList h hc
theorem ty_t {K : PySem.W.Frag} {H : Hp} {a : Addr} {xs : List V} (h : SqT K H a xs) : TyX K H (.ref a) (.type "tuple") := by
  rcases h with (h | ⟨o, h⟩) | ⟨o, its, n, h, hc, _⟩
  · exact .base (.tup h)
  · exact .fTuple h
  · exact .kTuple h hc
theorem ty_flat {K : PySem.W.Frag} {H : Hp} {v : V} (h : flatV v = true) : ∃ T, TyX K H v (.type T) ∧ (T = "NoneType" ∨ T = "bool" ∨ T = "int" ∨ T = "str") := by
  cases v with
  | non => exact ⟨_, .base .non, .inl rfl⟩
  | bl b => exact ⟨_, .base (.bl b), .inr (.inl rfl)⟩
  | int i => exact ⟨_, .base (.int i), .inr (.inr (.inl rfl))⟩
  | str s => exact ⟨_, .base (.str s), .inr (.inr (.inr rfl))⟩
  | _ => cases h
theorem scal_flat {v : V} (h : flatV v = true) (n : v ≠ .non) : scal v v = true := by
  cases v with
  | non => exact absurd rfl n
  | bl b => rfl
  | int i => rfl
  | str s => rfl
  | _ => cases h
def spS (K : PySem.W.Frag) : Nat → Sp
  | 0 => fun _ _ _ _ => False
  | n + 1 => fun vs H Q _ => ∃ x y, vs = [x, y] ∧ Eqd K H n x y ∧ ∀ H', Same H H' → Q (.bl true) H'
end Tw
namespace Tw
open PySem PySem.Spec PyProof.Rows L2
section
variable {P : Program} {w : World} {K : PySem.W.Frag} {mg : Str → Option Value} {base : Heap} {j k n : Nat} {X : Cx} {NS WS : List (Str × Nat)} {G : List Str} {x m : Str} {i : Nat} {p pos apos : Pos} {e o : Expr} {es : List Expr} {t tk : TA} {ps ks : List Str} {sp : Sp} {te ta : TE} {C : Addr} {kws : List Keyword} {mc : Value}
/-- C.m(e, ..), m a staticmethod of the class C -/
structure Sf (P : Program) (w : World) (K : PySem.W.Frag) (mg : Str → Option Value) (base : Heap) (k : Nat) (C : Addr) (m : Str) (ps : List Str) (sp : Sp) : Prop where
  ex : ∃ q f fd mc rest, ClX.CRead K C mc ∧ PySem.W.findCls K (.ref C) mc m = some (.get (.builtin "staticmethod.__get__") (.ref q) .none (.ref C)) ∧ PySem.W.recIn K q "staticmethod" = some (.ref f :: rest) ∧
    PySem.W.keepIn K (.ref f) = true ∧ Binds K fd ps [] ∧ FnOk P w K mg base CX0 k f fd ps sp
theorem n_sm {pl : Sem Bool} (h : Nm P w K mg base j X NS WS G) (hm : mg x = some (.ref C)) (hg : x ∈ G) (M : Sf P w K mg base k C m ps sp) (hk : k ≤ j) (ha : PA X (e :: es) t)
    (hst : starEach (e :: es) X.env = (false, eval e X.env) :: starEach es X.env := by rfl) (hpl : (backTo pos (starEach es X.env)).any (·.1) = false := by rfl)
    (ht : eval (.Call (.Attribute (.Name x p) m apos) (e :: es) [] pos) X.env = (do
      let ov ← eval (.Name x p) X.env; standAt apos.atName; let (f, first) ← holding [ov] (getMethod ov m pl)
      callWith pos f first (backTo pos (starEach (e :: es) X.env)) (backToKw pos (keywordEach [] X.env))) := by rfl) : PE X (.Call (.Attribute (.Name x p) m apos) (e :: es) [] pos) (tD sp t) := by
  have hn := n_glR (pos := p) h hm hg
  obtain ⟨h1, h2, h3, h4, h5, hr, _, _, _, _, hgl⟩ := h
  subst h1 h2 h3 h4 h5
  obtain ⟨q, f, fd, mc, rest, rd, hf, hp, hkp, hb, F⟩ := M.ex
  refine ⟨fun pins s σ H Q I h => ?_⟩
  have h' : tC (.ref C) σ H (fun v H1 => v = .ref C ∧ t σ H1 fun vs H2 => sp vs H2 Q E0) := ⟨rfl, h⟩
  refine PySem.W.methodCall_KW (pl := pl) (thn (hn.run pins s σ H _ I h') fun u s1 ⟨v, H1, I1, rx, ev, q1⟩ => ?_) ht
  subst ev
  obtain rfl : u = Value.ref C := rx
  refine PySem.W.method_cls I1.kIn rd.ga (PySem.W.cls_bind I1.kIn rd.rd hf (wpAny_call (PySem.W.sm_get (s := { s1 with toks := s1.toks + 1 }) I1.kIn hp (PySem.W.handed_on rfl ?_))))
  refine PySem.W.callWith_K (first := []) (h₀ := X.base) I.ok.mod.kin hkp (thn (ha.run pos pins _ σ H1 _ (I1.tok _) q1) fun us s2 ⟨vs, H2, I2, r, q2⟩ => ⟨I2.kIn, ?_⟩) hst hpl
  exact run_fn (us := us) (vs := vs) F (hr.mono hk) hb .nil pass0 I2 r (by rw [List.append_nil]; exact q2)

/-- f(k = v, ..), f an instance of C -/
theorem call_kw {M : Model} {A : Around} {E : Value → Shared → Prop} {s : Shared} {a : Addr} {pos : Pos} {Q : Value → Shared → Prop} {kws : List (Option Str × Sem Value)} (hplain : kws.any (·.1.isNone) = false)
    (h : wpAny M A (evalArgs (.ref a) true [] kws) (fun z s₁ => (∃ C ox od, PySem.W.InstAt s₁.heap a ox C od ∧ ox.data = .plain) ∧ wpAny M A (call (.ref a) z.pos z.kw) Q E s₁) E s) : wpAny M A (callWith pos (.ref a) [] [] kws) Q E s := by
  unfold callWith
  refine wpAny_bind (wpAny_holding (wpAny_mono h (fun z s₁ hz => ?_) fun _ _ y => y))
  obtain ⟨⟨C, ox, od, J, hd⟩, hz⟩ := hz
  have L := PySem.W.kco_keeper (M := M) J hd
  refine wpAny_bind (wpAny_standAt ?_)
  simp only [List.any_nil, Bool.false_or, hplain, List.nil_append]
  refine wpAny_bind (L.here ?_)
  refine wpAny_bind (wpAny_operateT (wpAny_mono hz (fun r s₂ hr => ?_) fun _ _ y => y))
  exact wpAny_bind (wpAny_holding (wpAny_point (wpAny_pure hr)))
structure CfK (P : Program) (w : World) (K : PySem.W.Frag) (mg : Str → Option Value) (base : Heap) (k : Nat) (C : Addr) (ps ks : List Str) (gV : List V → List V → List V) (sp : Sp) : Prop where
  ex : ∃ f fd g, StX.CallO K C f ∧ KBn K fd ps 1 ks g gV ∧ FnOk P w K mg base CX0 k f fd ps sp
def tCK (C : Addr) (q : Nat) (gV : List V → List V → List V) (sp : Sp) (tf : TE) (tk : TA) : TE := fun σ H Q => tf σ H fun y H1 => ∃ a, y = V.ref a ∧ tk σ H1 fun zs H2 => zs.length = q ∧ (∃ dx fs, H2 a = some (.ins C dx fs)) ∧ sp (gV [V.ref a] zs) H2 Q E0
theorem n_coK {tf : TE} {fe : Expr} {gV : List V → List V → List V} (h : Nm P w K mg base j X NS WS G) (M : CfK P w K mg base k C ps ks gV sp) (hk : k ≤ j) (hf : PE X fe tf) (hkw : PK X kws tk)
    (hall : (backToKw pos (keywordEach kws X.env)).all (·.1.isSome) = true := by rfl) (hks : (backToKw pos (keywordEach kws X.env)).filterMap (·.1) = ks := by rfl) (hpl : (backToKw pos (keywordEach kws X.env)).any (·.1.isNone) = false := by rfl)
    (ht : eval (.Call fe [] kws pos) X.env = (do callWith pos (← eval fe X.env) [] (backTo pos (starEach [] X.env)) (backToKw pos (keywordEach kws X.env))) := by rfl) : PE X (.Call fe [] kws pos) (tCK C ks.length gV sp tf tk) := by
  obtain ⟨h1, h2, h3, h4, h5, hr, _, _, _, _, hgl⟩ := h
  subst h1 h2 h3 h4 h5
  obtain ⟨f, fd, g, hc, hb, F⟩ := M.ex
  refine ⟨fun pins s σ H Q I h => ?_⟩
  rw [ht]
  refine wpAny_bind (thn (hf.run pins s σ H _ I h) fun u s1 ⟨y, H1, I1, ry, a, ey, q⟩ => ?_)
  subst ey
  obtain rfl : u = Value.ref a := ry
  refine call_kw hpl ?_
  refine evalArgs_kw2_nil (env := X.env) hall ?_
  refine thn (hkw.run pos pins s1 σ H1 _ I1 q) fun ws s2 ⟨zs, H2, I2, rz, l2, ⟨dx, fs, hi⟩, q2⟩ => ?_
  obtain ⟨ox, od, J, hd⟩ := StX.insC_at I2 (.inr ⟨dx, fs, hi⟩)
  refine ⟨⟨C, ox, od, J, hd⟩, ?_⟩
  rw [hks]
  have r2 := hb.rel (.cons rfl .nil : Vals [V.ref a] [Value.ref a]) rz
  refine wpAny_call (PySem.W.kco_code I2.kIn J hd hc.at_ hc.fn hc.fi (codeAny_mono (F.run X.A X.stack s2 H2 ⟨[.ref a], ks.zip ws⟩ _ _ Q E0 (hr.mono hk) I2.env0 (hb.to s2 [.ref a] ws I2.kIn rfl (rz.length.symm.trans l2)) r2 q2) fun r s' hq => ?_))
  cases r with
  | error e => exact hq.elim
  | ok fl =>
    cases fl with
    | ret u => exact I2.after hq
    | next => exact hq.elim
    | brk => exact hq.elim
    | cont => exact hq.elim
end
end Tw
namespace Tw
open PySem PySem.Spec PyProof.Rows L2
/-! ### tuples and lists of whole numbers, as data -/
theorem lay_ints : ∀ ds : List Int, PyData.canLayAll0 (ds.map PyData.int) = true
  | [] => by simp [PyData.canLayAll0]
  | d :: r => by
    rw [List.map_cons, PyData.canLayAll0, lay_ints r, PyData.canLay0]
    rfl
theorem depth_ints : ∀ ds : List Int, PyData.depthAll (ds.map PyData.int) = 0
  | [] => by simp [PyData.depthAll]
  | d :: r => by
    rw [List.map_cons, PyData.depthAll, depth_ints r, PyData.depth]
    rfl
theorem shaped_l (ds : List Int) : SeqAt.shaped (.list (ds.map PyData.int)) = true := by
  unfold SeqAt.shaped
  rw [PyData.canLay0, PyData.depth, lay_ints, depth_ints]
  rfl
theorem dp_ints {K : PySem.W.Frag} {H : Hp} : ∀ ds : List Int, DpAll K H (ds.map V.int) (ds.map PyData.int)
  | [] => .nil
  | d :: r => .cons (.int d) (dp_ints r)
/-! ### slices and sums of tuples -/
theorem cut_take (xs : List V) (n : Nat) : cutV xs none (some (n : Int)) = xs.take n := by
  unfold cutV
  rw [HT.sIx_nat, show HT.sIx xs.length 0 none = 0 from rfl, List.drop_zero, Nat.sub_zero]
  by_cases c : n ≤ xs.length
  · rw [Nat.min_eq_left c]
  · rw [Nat.min_eq_right (by omega), List.take_length, List.take_of_length_le (by omega)]
theorem sl_any {K : PySem.W.Frag} {H : Hp} {a : Addr} {xs : List V} {n : Nat} {Q : V → Hp → Prop} (h : H a = some (.tup xs)) (k : ∀ r H', Same H H' → H' r = some (.tup (xs.take n)) → Q (.ref r) H') : rSlA K (.ref a) none (some (n : Int)) H Q := by
  refine ⟨a, xs, rfl, SqT.of h, fun w => k a H (fun _ _ e => e) ?_, fun _ p hp => ?_⟩
  · have e := w.2
    rw [HT.sIx_nat] at e
    rw [h, List.take_of_length_le (by omega)]
  · rw [cut_take]
    exact k p _ (same_new hp) upd_same
theorem sl_list_any {K : PySem.W.Frag} {H : Hp} {a : Addr} {xs : List V} {n : Nat} {Q : V → Hp → Prop} (h : H a = some (.lst xs)) (k : ∀ r H', Same H H' → H' r = some (.lst (xs.take n)) → Q (.ref r) H') : rSlL K (.ref a) none (some (n : Int)) H Q := by
  refine ⟨a, xs, rfl, SqL.of h, fun p hp => ?_⟩
  rw [cut_take]
  exact k p _ (same_new hp) upd_same
theorem cat_any {K : PySem.W.Frag} {H : Hp} {a b : Addr} {xs ys : List V} {Q : V → Hp → Prop} (ha : H a = some (.tup xs)) (hb : H b = some (.tup ys)) (hz : xs.length + ys.length ≤ 1000) (k : ∀ r H', Same H H' → H' r = some (.tup (xs ++ ys)) → Q (.ref r) H') : rCatA K (.ref a) (.ref b) H Q := by
  refine ⟨a, b, xs, ys, rfl, rfl, SqT.of ha, SqT.of hb, Nat.le_of_lt (small1000 hz), fun e => ?_, fun _ e => ?_, fun _ _ p hp => ?_⟩
  · subst e
    exact k b H (fun _ _ e => e) hb
  · subst e
    refine k a H (fun _ _ e => e) ?_
    rw [List.append_nil]; exact ha
  · exact k p _ (same_new hp) upd_same
theorem flat_rep (n : Nat) (v : V) : (List.replicate n [v]).flatten = List.replicate n v := by
  induction n with
  | zero => rfl
  | succ n ih => rw [List.replicate_succ, List.flatten_cons, ih]; rfl
/-! ### equal data out of whole numbers -/
/-! ### what is above does not change what is below -/
end Tw
namespace Tw
open PySem PySem.Spec PyProof.Rows L2
/-! ### != by an own == -/
section
variable {prog : Program} {w : World} {A : Around} {E : Value → Shared → Prop} {s : Shared} {K : PySem.W.Frag} {x y C f : Addr} {ox : Obj} {od : Option Obj}
end
section
variable {X : Cx} {n : Nat} {C : Addr}
structure Ow (P : Program) (w : World) (K : PySem.W.Frag) (mg : Str → Option Value) (base : Heap) (k : Nat) (C : Addr) (ps : List Str) (sp : Sp) : Prop where
  ex : ∃ f fd, PySem.W.findIn K (.ref C) "__eq__" = some (some (.ref f)) ∧ PySem.W.isFn K (.ref f) = true ∧ Binds K fd ps [] ∧ FnOk P w K mg base CX0 k f fd ps sp
  ne : PySem.W.findIn K (.ref C) "__ne__" = some (some (.builtin "object.__ne__"))
  mo : PySem.W.mroIn K C (.type "object") = some true
end
/-! ### a comprehension over a tuple or list whose items are made anew -/
end Tw
namespace Tw
open PySem PySem.Spec PyProof.Rows L2
/-! ### the undone turner -/
def undS (p : Int) (s : Int × List Int) : Int × List Int := ((-s.1) % p, (List.range p.toNat).map fun (f : Nat) => s.2.getD (((f : Int) - s.1) % p).toNat 0)
def undM (p : Int) (M : Mach) : Mach := M.map (undS p)
section
variable {p n d f t s : Int} {M : Mach}
theorem md_in (h : IsP p) (x : Int) : 0 ≤ x % p ∧ x % p < p := by rcases h with rfl | rfl | rfl | rfl <;> omega
theorem md_late (h : IsP p) (t0 : 0 ≤ t) (t1 : t < p) : (p - t) % p = (-t) % p := by rcases h with rfl | rfl | rfl | rfl <;> omega
theorem md_inj (h : IsP p) {x y : Int} (x0 : 0 ≤ x) (x1 : x < p) (y0 : 0 ≤ y) (y1 : y < p) (e : (x + t) % p = (y + t) % p) : x = y := by rcases h with rfl | rfl | rfl | rfl <;> omega
theorem md_back (h : IsP p) (f0 : 0 ≤ f) (f1 : f < p) : (((f - t) % p) + t) % p = f := by rcases h with rfl | rfl | rfl | rfl <;> omega
theorem undS_len (p : Int) (s : Int × List Int) : (undS p s).2.length = p.toNat := by unfold undS; simp
theorem undS_at {s : Int × List Int} (f0 : 0 ≤ f) (f1 : f < p) : (undS p s).2.getD f.toNat 0 = s.2.getD ((f - s.1) % p).toNat 0 := by
  have hf : f.toNat < p.toNat := by omega
  have e : ((f.toNat : Nat) : Int) = f := by omega
  unfold undS
  rw [List.getD_eq_getElem?_getD, List.getElem?_map, List.getElem?_range hf]
  show s.2.getD ((((f.toNat : Nat) : Int) - s.1) % p).toNat 0 = _
  rw [e]
theorem undM_len : (undM p M).length = M.length := by unfold undM; simp
theorem getD_in {l : List Int} (hl : (l.length : Int) = p) (hg : ∀ g ∈ l, 0 ≤ g ∧ g < n) {i : Int} (i0 : 0 ≤ i) (i1 : i < p) : 0 ≤ l.getD i.toNat 0 ∧ l.getD i.toNat 0 < n := by
  have hi : i.toNat < l.length := by omega
  rw [List.getD_eq_getElem?_getD, List.getElem?_eq_getElem hi]
  exact hg _ (List.getElem_mem hi)
theorem undM_ok (h : IsP p) (o : OkM p n M) : OkM p n (undM p M) := by
  refine ⟨fun s hs => ?_, fun s hs => ?_, fun s hs g hg => ?_⟩
  all_goals
    unfold undM at hs
    obtain ⟨u, hu, rfl⟩ := List.mem_map.mp hs
  · exact md_in h _
  · rw [undS_len]
    have := h.two
    omega
  · unfold undS at hg
    obtain ⟨i, hi, rfl⟩ := List.mem_map.mp hg
    have z := md_in h ((i : Int) - u.1)
    exact getD_in (o.many u hu) (o.goal u hu) z.1 z.2
theorem behM_in (h : IsP p) : ∀ (ds : List Int) (s : Int), ∀ d ∈ behM p M s ds, 0 ≤ d ∧ d < p
  | [], s, d, hd => by cases hd
  | e :: r, s, d, hd => by
    rcases List.mem_cons.mp (show d ∈ (e + turnM M s) % p :: behM p M (goM M s e) r from hd) with rfl | hd
    · exact md_in h _
    · exact behM_in h r _ d hd
/-! the law's own way: a list filled place by place -/
def lateM (p t : Int) (gs : List Int) : Nat → List Int
  | 0 => List.replicate p.toNat 0
  | i + 1 => (lateM p t gs i).set (((i : Int) + t) % p).toNat (gs.getD i 0)
theorem lateM_len (t : Int) (gs : List Int) : ∀ i, (lateM p t gs i).length = p.toNat
  | 0 => by simp [lateM]
  | i + 1 => by rw [lateM, List.length_set, lateM_len t gs i]
theorem lateM_at (h : IsP p) (gs : List Int) : ∀ (i : Nat), (i : Int) ≤ p → ∀ x : Nat, x < i → (lateM p t gs i)[(((x : Int) + t) % p).toNat]? = some (gs.getD x 0)
  | 0, _, x, hx => absurd hx (Nat.not_lt_zero x)
  | i + 1, hi, x, hx => by
    have zx := md_in h ((x : Int) + t)
    have zi := md_in h ((i : Int) + t)
    rw [lateM]
    by_cases c : x = i
    · subst c
      rw [List.getElem?_set_self (by rw [lateM_len]; omega)]
    · have hne : (((i : Int) + t) % p).toNat ≠ (((x : Int) + t) % p).toNat := fun e => c (by
        have := md_inj (t := t) h (x := (x : Int)) (y := (i : Int)) (by omega) (by omega) (by omega) (by omega) (by omega)
        omega)
      rw [List.getElem?_set_ne hne]
      exact lateM_at h gs i (by omega) x (by omega)
theorem lateM_end (h : IsP p) (s : Int × List Int) : lateM p s.1 s.2 p.toNat = (undS p s).2 := by
  have p2 := h.two
  refine List.ext_getElem? fun i => ?_
  by_cases c : i < p.toNat
  · have l2 : i < (undS p s).2.length := by rw [undS_len]; exact c
    have z := md_in h ((i : Int) - s.1)
    have e := lateM_at (t := s.1) h s.2 p.toNat (by omega) (((i : Int) - s.1) % p).toNat (by omega)
    have e1 : (((((((i : Int) - s.1) % p).toNat : Nat) : Int) + s.1) % p).toNat = i := by
      have := md_back (t := s.1) h (f := (i : Int)) (by omega) (by omega)
      rw [show (((((i : Int) - s.1) % p).toNat : Nat) : Int) = ((i : Int) - s.1) % p by omega, this]; omega
    rw [e1] at e
    rw [e]
    have e2 := undS_at (p := p) (s := s) (f := (i : Int)) (by omega) (by omega)
    rw [Int.toNat_natCast, List.getD_eq_getElem?_getD, List.getElem?_eq_getElem l2] at e2
    rw [List.getElem?_eq_getElem l2]
    exact congrArg some e2.symm
  · rw [List.getElem?_eq_none (by rw [lateM_len]; omega), List.getElem?_eq_none (by rw [undS_len]; omega)]
end
end Tw
namespace Tw
open PySem PySem.Spec PyProof.Rows L2
/-! ### machines as data -/
theorem eqv_ints2 : ∀ ds es : List Int, PyData.eqvAll (ds.map PyData.int) (es.map PyData.int) = decide (ds = es)
  | [], [] => by simp [PyData.eqvAll]
  | [], e :: r => by simp [PyData.eqvAll]
  | d :: r, [] => by simp [PyData.eqvAll]
  | d :: r, e :: q => by
    rw [List.map_cons, List.map_cons, PyData.eqvAll, eqv_ints2 r q, PyData.eqv]
    by_cases h : d = e <;> by_cases g : r = q <;> simp [h, g]
end Tw
namespace Tw
open PySem PySem.Spec PyProof.Rows L2
/-! ### the product of two machines, its pairs numbered as they are reached -/
abbrev Key2 := Int × Int
def plc : List Key2 → Key2 → Nat
  | [], _ => 0
  | c :: r, k => if c = k then 0 else plc r k + 1
theorem plc_mem : ∀ {ks : List Key2} {k : Key2}, k ∈ ks → ks[plc ks k]? = some k
  | [], k, h => by cases h
  | c :: r, k, h => by
    unfold plc
    by_cases e : c = k
    · rw [if_pos e, e]; rfl
    · rw [if_neg e, List.getElem?_cons_succ]
      exact plc_mem ((List.mem_cons.mp h).resolve_left fun z => e z.symm)
theorem plc_lt {ks : List Key2} {k : Key2} (h : k ∈ ks) : plc ks k < ks.length := (List.getElem?_eq_some_iff.mp (plc_mem h)).1
theorem plc_app : ∀ {ks : List Key2} {k : Key2} (r : List Key2), k ∈ ks → plc (ks ++ r) k = plc ks k
  | [], k, r, h => by cases h
  | c :: q, k, r, h => by
    rw [List.cons_append]
    unfold plc
    by_cases e : c = k
    · rw [if_pos e, if_pos e]
    · rw [if_neg e, if_neg e, plc_app r ((List.mem_cons.mp h).resolve_left fun z => e z.symm)]
theorem plc_snoc : ∀ {ks : List Key2} {k : Key2}, k ∉ ks → plc (ks ++ [k]) k = ks.length
  | [], k, h => by simp [plc]
  | c :: q, k, h => by
    rw [List.cons_append]
    unfold plc
    have e : c ≠ k := fun z => h (by rw [z]; exact List.mem_cons_self)
    rw [if_neg e, plc_snoc fun z => h (List.mem_cons_of_mem _ z)]; rfl
def addK (ks : List Key2) (k : Key2) : List Key2 := if k ∈ ks then ks else ks ++ [k]
theorem addK_mem (ks : List Key2) (k : Key2) : k ∈ addK ks k := by
  unfold addK
  by_cases h : k ∈ ks
  · rw [if_pos h]; exact h
  · rw [if_neg h]; simp
theorem addK_pre (ks : List Key2) (k : Key2) : ∃ r, addK ks k = ks ++ r := by
  unfold addK
  by_cases h : k ∈ ks
  · rw [if_pos h]; exact ⟨[], (List.append_nil _).symm⟩
  · rw [if_neg h]; exact ⟨[k], rfl⟩
theorem addK_nodup {ks : List Key2} (k : Key2) (h : ks.Nodup) : (addK ks k).Nodup := by
  unfold addK
  by_cases c : k ∈ ks
  · rw [if_pos c]; exact h
  · rw [if_neg c]
    refine List.nodup_append.mpr ⟨h, by simp, fun a ha b hb e => ?_⟩
    rw [List.mem_singleton.mp hb] at e
    exact c (e ▸ ha)
section
variable (p : Int) (M N : Mach)
def nxtP (k : Key2) (x : Nat) : Key2 := (goM M k.1 (x : Int), goM N k.2 (((x : Int) + turnM M k.1) % p))
def rowK (k : Key2) (ks : List Key2) : Nat → List Key2
  | 0 => ks
  | i + 1 => addK (rowK k ks i) (nxtP p M N k i)
def goalsK (k : Key2) (ks : List Key2) : Nat → List Int
  | 0 => []
  | i + 1 => goalsK k ks i ++ [(plc (rowK p M N k ks (i + 1)) (nxtP p M N k i) : Int)]
def keyJ (s0 : Key2) : Nat → List Key2
  | 0 => [s0]
  | j + 1 => rowK p M N ((keyJ s0 j).getD j (0, 0)) (keyJ s0 j) p.toNat
def outS (k : Key2) (ks : List Key2) : Int × List Int := ((turnM M k.1 + turnM N k.2) % p, goalsK p M N k ks p.toNat)
def outJ (s0 : Key2) : Nat → Mach
  | 0 => []
  | j + 1 => outJ s0 j ++ [outS p M N ((keyJ p M N s0 j).getD j (0, 0)) (keyJ p M N s0 j)]
end
section
variable {p : Int} {M N : Mach}
theorem rowK_pre (k : Key2) (ks : List Key2) : ∀ i, ∃ r, rowK p M N k ks i = ks ++ r
  | 0 => ⟨[], (List.append_nil _).symm⟩
  | i + 1 => by
    obtain ⟨r, e⟩ := rowK_pre k ks i
    obtain ⟨q, e2⟩ := addK_pre (rowK p M N k ks i) (nxtP p M N k i)
    exact ⟨r ++ q, by rw [rowK, e2, e, List.append_assoc]⟩
theorem rowK_more (k : Key2) (ks : List Key2) (i : Nat) : ∀ j, ∃ r, rowK p M N k ks (i + j) = rowK p M N k ks i ++ r
  | 0 => ⟨[], (List.append_nil _).symm⟩
  | j + 1 => by
    obtain ⟨r, e⟩ := rowK_more k ks i j
    obtain ⟨q, e2⟩ := addK_pre (rowK p M N k ks (i + j)) (nxtP p M N k (i + j))
    exact ⟨r ++ q, by rw [show i + (j + 1) = (i + j) + 1 by omega, rowK, e2, e, List.append_assoc]⟩
theorem rowK_has (k : Key2) (ks : List Key2) {i x : Nat} (h : x < i) : nxtP p M N k x ∈ rowK p M N k ks i := by
  obtain ⟨r, e⟩ := rowK_more (p := p) (M := M) (N := N) k ks (x + 1) (i - (x + 1))
  rw [show x + 1 + (i - (x + 1)) = i by omega] at e
  rw [e]
  exact List.mem_append_left _ (addK_mem _ _)
theorem rowK_nodup (k : Key2) {ks : List Key2} (h : ks.Nodup) : ∀ i, (rowK p M N k ks i).Nodup
  | 0 => h
  | i + 1 => addK_nodup _ (rowK_nodup k h i)
/-- a pair of states in bounds -/
def InK (M N : Mach) (k : Key2) : Prop := 0 ≤ k.1 ∧ k.1 < (M.length : Int) ∧ 0 ≤ k.2 ∧ k.2 < (N.length : Int)
theorem nxt_in (hP : IsP p) (oM : OkM p (M.length : Int) M) (oN : OkM p (N.length : Int) N) {k : Key2} (h : InK M N k) {x : Nat} (hx : (x : Int) < p) : InK M N (nxtP p M N k x) := by
  have md := md_in hP ((x : Int) + turnM M k.1)
  have g1 := goM_in oM rfl h.1 h.2.1 (d := (x : Int)) (by omega) hx
  have g2 := goM_in oN rfl h.2.2.1 h.2.2.2 md.1 md.2
  exact ⟨g1.1, g1.2, g2.1, g2.2⟩
theorem addK_in {ks : List Key2} {k : Key2} (h : ∀ c ∈ ks, InK M N c) (hk : InK M N k) : ∀ c ∈ addK ks k, InK M N c := fun c hc => by
  unfold addK at hc
  by_cases e : k ∈ ks
  · rw [if_pos e] at hc; exact h c hc
  · rw [if_neg e] at hc
    rcases List.mem_append.mp hc with z | z
    · exact h c z
    · rw [List.mem_singleton.mp z]; exact hk
theorem rowK_in (hP : IsP p) (oM : OkM p (M.length : Int) M) (oN : OkM p (N.length : Int) N) {k : Key2} {ks : List Key2} (h : ∀ c ∈ ks, InK M N c) (hk : InK M N k) : ∀ i : Nat, (i : Int) ≤ p → ∀ c ∈ rowK p M N k ks i, InK M N c
  | 0, _ => h
  | i + 1, hi => addK_in (rowK_in hP oM oN h hk i (by omega)) (nxt_in hP oM oN hk (by omega))
theorem goalsK_len (k : Key2) (ks : List Key2) : ∀ i, (goalsK p M N k ks i).length = i
  | 0 => rfl
  | i + 1 => by rw [goalsK, List.length_append, goalsK_len k ks i]; rfl
theorem goalsK_at (k : Key2) (ks : List Key2) : ∀ (i x : Nat), x < i → (goalsK p M N k ks i)[x]? = some ((plc (rowK p M N k ks i) (nxtP p M N k x) : Nat) : Int)
  | 0, x, h => absurd h (Nat.not_lt_zero x)
  | i + 1, x, h => by
    rw [goalsK]
    by_cases e : x < i
    · rw [List.getElem?_append_left (by rw [goalsK_len]; exact e), goalsK_at k ks i x e]
      obtain ⟨r, e2⟩ := addK_pre (rowK p M N k ks i) (nxtP p M N k i)
      rw [rowK, e2, plc_app r (rowK_has k ks e)]
    · have ex : x = i := by omega
      subst ex
      rw [List.getElem?_append_right (by rw [goalsK_len]; exact Nat.le_refl _), goalsK_len, Nat.sub_self]
      rfl
theorem keyJ_pre (s0 : Key2) (i : Nat) : ∀ j, ∃ r, keyJ p M N s0 (i + j) = keyJ p M N s0 i ++ r
  | 0 => ⟨[], (List.append_nil _).symm⟩
  | j + 1 => by
    obtain ⟨r, e⟩ := keyJ_pre s0 i j
    obtain ⟨q, e2⟩ := rowK_pre (p := p) (M := M) (N := N) ((keyJ p M N s0 (i + j)).getD (i + j) (0, 0)) (keyJ p M N s0 (i + j)) p.toNat
    exact ⟨r ++ q, by rw [show i + (j + 1) = (i + j) + 1 by omega, keyJ, e2, e, List.append_assoc]⟩
theorem keyJ_nodup (s0 : Key2) : ∀ j, (keyJ p M N s0 j).Nodup
  | 0 => by simp [keyJ]
  | j + 1 => rowK_nodup _ (keyJ_nodup s0 j) _
theorem getD_mem {ks : List Key2} {j : Nat} (h : j < ks.length) : ks.getD j (0, 0) ∈ ks := by
  rw [List.getD_eq_getElem?_getD, List.getElem?_eq_getElem h]
  exact List.getElem_mem h
theorem keyJ_in (hP : IsP p) (oM : OkM p (M.length : Int) M) (oN : OkM p (N.length : Int) N) {s0 : Key2} (h0 : InK M N s0) : ∀ j, (∀ i, i < j → i < (keyJ p M N s0 i).length) → ∀ c ∈ keyJ p M N s0 j, InK M N c
  | 0, _, c, hc => by rw [List.mem_singleton.mp hc]; exact h0
  | j + 1, hj, c, hc => by
    have ih := keyJ_in hP oM oN h0 j fun i hi => hj i (by omega)
    have p2 := hP.two
    exact rowK_in hP oM oN ih (ih _ (getD_mem (hj j (Nat.lt_succ_self j)))) p.toNat (by omega) c hc
theorem outJ_len (s0 : Key2) : ∀ j, (outJ p M N s0 j).length = j
  | 0 => rfl
  | j + 1 => by rw [outJ, List.length_append, outJ_len s0 j]; rfl
theorem outJ_at (s0 : Key2) : ∀ (j i : Nat), i < j → (outJ p M N s0 j)[i]? = some (outS p M N ((keyJ p M N s0 i).getD i (0, 0)) (keyJ p M N s0 i))
  | 0, i, h => absurd h (Nat.not_lt_zero i)
  | j + 1, i, h => by
    rw [outJ]
    by_cases e : i < j
    · rw [List.getElem?_append_left (by rw [outJ_len]; exact e), outJ_at s0 j i e]
    · have ex : i = j := by omega
      subst ex
      rw [List.getElem?_append_right (by rw [outJ_len]; exact Nat.le_refl _), outJ_len, Nat.sub_self]
      rfl
theorem nodup_le : ∀ {ks all : List Key2}, ks.Nodup → ks ⊆ all → ks.length ≤ all.length
  | [], _, _, _ => Nat.zero_le _
  | c :: r, all, hn, hs => by
    have hc : c ∈ all := hs List.mem_cons_self
    have hr : r.Nodup := (List.nodup_cons.mp hn).2
    have hcr : c ∉ r := (List.nodup_cons.mp hn).1
    have h := nodup_le (all := all.erase c) hr fun d hd => (List.mem_erase_of_ne (fun e : d = c => hcr (by rw [← e]; exact hd))).mpr (hs (List.mem_cons_of_mem _ hd))
    rw [List.length_erase_of_mem hc] at h
    have : 0 < all.length := List.length_pos_of_mem hc
    rw [List.length_cons]
    omega
theorem sum_same (n : Nat) : ∀ m : Nat, ((List.range m).map fun _ => n).sum = m * n
  | 0 => by simp
  | m + 1 => by
    rw [List.range_succ, List.map_append, List.sum_append, sum_same n m]
    simp [Nat.succ_mul]
/-- lists of pairs in bounds without a pair twice are no longer than all pairs -/
theorem inK_len {ks : List Key2} (hn : ks.Nodup) (h : ∀ c ∈ ks, InK M N c) : ks.length ≤ M.length * N.length := by
  let all : List Key2 := (List.range M.length).flatMap fun (a : Nat) => (List.range N.length).map fun (b : Nat) => ((a : Int), (b : Int))
  have hl : all.length = M.length * N.length := by
    show ((List.range M.length).flatMap fun (a : Nat) => (List.range N.length).map fun (b : Nat) => (((a : Int), (b : Int)) : Key2)).length = _
    simp only [List.length_flatMap, List.length_map, List.length_range]
    exact sum_same N.length M.length
  have hs : ks ⊆ all := fun c hc => by
    obtain ⟨a0, a1, b0, b1⟩ := h c hc
    refine List.mem_flatMap.mpr ⟨c.1.toNat, List.mem_range.mpr (by omega), List.mem_map.mpr ⟨c.2.toNat, List.mem_range.mpr (by omega), ?_⟩⟩
    exact Prod.ext (by show ((c.1.toNat : Nat) : Int) = c.1; omega) (by show ((c.2.toNat : Nat) : Int) = c.2; omega)
  rw [← hl]
  exact nodup_le hn hs
/-! the product when all pairs are done -/
structure Done (p : Int) (M N : Mach) (s0 : Key2) (J : Nat) : Prop where
  go : ∀ i, i < J → i < (keyJ p M N s0 i).length
  stop : (keyJ p M N s0 J).length = J
theorem Done.one {s0 : Key2} {J L : Nat} (a : Done p M N s0 J) (b : Done p M N s0 L) : J = L := by
  rcases Nat.lt_trichotomy J L with h | h | h
  · have := b.go J h
    have := a.stop
    omega
  · exact h
  · have := a.go L h
    have := b.stop
    omega
theorem done_len (hP : IsP p) (oM : OkM p (M.length : Int) M) (oN : OkM p (N.length : Int) N) {s0 : Key2} (h0 : InK M N s0) {j : Nat} (hj : ∀ i, i < j → i < (keyJ p M N s0 i).length) : (keyJ p M N s0 j).length ≤ M.length * N.length :=
  inK_len (keyJ_nodup s0 j) (keyJ_in hP oM oN h0 j hj)
theorem done_ok (hP : IsP p) {s0 : Key2} {J : Nat} (D : Done p M N s0 J) : OkM p ((outJ p M N s0 J).length : Int) (outJ p M N s0 J) := by
  have p2 := hP.two
  rw [outJ_len]
  have key : ∀ s ∈ outJ p M N s0 J, ∃ i, i < J ∧ s = outS p M N ((keyJ p M N s0 i).getD i (0, 0)) (keyJ p M N s0 i) := fun s hs => by
    obtain ⟨i, hi, e⟩ := List.mem_iff_getElem.mp hs
    rw [outJ_len] at hi
    have := outJ_at (p := p) (M := M) (N := N) s0 J i hi
    rw [List.getElem?_eq_getElem (by rw [outJ_len]; exact hi), e] at this
    exact ⟨i, hi, Option.some.inj this⟩
  refine ⟨fun s hs => ?_, fun s hs => ?_, fun s hs g hg => ?_⟩
  all_goals obtain ⟨i, hi, rfl⟩ := key s hs
  · exact md_in hP _
  · show ((goalsK p M N _ _ p.toNat).length : Int) = p
    rw [goalsK_len]; omega
  · obtain ⟨x, hx, e⟩ := List.mem_iff_getElem.mp (show g ∈ goalsK p M N _ _ p.toNat from hg)
    have hx2 : x < p.toNat := by rw [goalsK_len] at hx; exact hx
    have := goalsK_at (p := p) (M := M) (N := N) ((keyJ p M N s0 i).getD i (0, 0)) (keyJ p M N s0 i) p.toNat x hx2
    rw [List.getElem?_eq_getElem hx, e] at this
    rw [Option.some.inj this]
    have hm := rowK_has (p := p) (M := M) (N := N) ((keyJ p M N s0 i).getD i (0, 0)) (keyJ p M N s0 i) hx2
    have l1 := plc_lt hm
    obtain ⟨r, e2⟩ := keyJ_pre (p := p) (M := M) (N := N) s0 (i + 1) (J - (i + 1))
    rw [show i + 1 + (J - (i + 1)) = J by omega, keyJ] at e2
    have l2 := D.stop
    rw [e2, List.length_append] at l2
    omega
end
end Tw
namespace Tw
open PySem PySem.Spec PyProof.Rows L2
/-! ### x * y by an own __mul__ -/
section
variable {X : Cx} {n : Nat} {C : Addr}
structure Om (P : Program) (w : World) (K : PySem.W.Frag) (mg : Str → Option Value) (base : Heap) (k : Nat) (C : Addr) (ps : List Str) (sp : Sp) : Prop where
  ex : ∃ f fd, PySem.W.findIn K (.ref C) "__mul__" = some (some (.ref f)) ∧ PySem.W.isFn K (.ref f) = true ∧ Binds K fd ps [] ∧ FnOk P w K mg base CX0 k f fd ps sp
  sf : PySem.W.selfFirst K C = true
end
end Tw
namespace Tw
open PySem PySem.Spec PyProof.Rows L2
/-! ### lists of pairs of whole numbers, as data -/
def keyD (k : Key2) : PyData := .tuple [.int k.1, .int k.2]
def KyAt (H : Hp) (v : V) (k : Key2) : Prop := ∃ a, v = .ref a ∧ H a = some (.tup [.int k.1, .int k.2])
def KysAt (H : Hp) (xs : List V) (ks : List Key2) : Prop := xs.length = ks.length ∧ ∀ (i : Nat) x k, xs[i]? = some x → ks[i]? = some k → KyAt H x k
theorem KyAt.same {H H' : Hp} {v : V} {k : Key2} (h : KyAt H v k) (e : Same H H') : KyAt H' v k := by
  obtain ⟨a, rfl, h1⟩ := h
  exact ⟨a, rfl, e _ _ h1⟩
theorem KysAt.same {H H' : Hp} {xs : List V} {ks : List Key2} (h : KysAt H xs ks) (e : Same H H') : KysAt H' xs ks := ⟨h.1, fun i x k h1 h2 => (h.2 i x k h1 h2).same e⟩
theorem KyAt.lst {H : Hp} {v : V} {k : Key2} {r : Addr} {ys zs : List V} (x : KyAt H v k) (h : H r = some (.lst ys)) : KyAt (upd H r (.lst zs)) v k := by
  obtain ⟨a, rfl, h1⟩ := x
  exact ⟨a, rfl, by rw [upd_ne (ne_of h1 h (by intro q; cases q))]; exact h1⟩
theorem KysAt.lst {H : Hp} {xs : List V} {ks : List Key2} {r : Addr} {ys zs : List V} (x : KysAt H xs ks) (h : H r = some (.lst ys)) : KysAt (upd H r (.lst zs)) xs ks := ⟨x.1, fun i v k h1 h2 => (x.2 i v k h1 h2).lst h⟩
theorem KysAt.snoc {H : Hp} {xs : List V} {ks : List Key2} {v : V} {k : Key2} (x : KysAt H xs ks) (y : KyAt H v k) : KysAt H (xs ++ [v]) (ks ++ [k]) := by
  refine ⟨by simp [x.1], fun i u c h1 h2 => ?_⟩
  by_cases e : i < xs.length
  · rw [List.getElem?_append_left e] at h1
    rw [List.getElem?_append_left (by rw [← x.1]; exact e)] at h2
    exact x.2 i u c h1 h2
  · rw [List.getElem?_append_right (by omega)] at h1
    rw [List.getElem?_append_right (by rw [← x.1]; omega), ← x.1] at h2
    have z : i - xs.length = 0 := by
      rcases Nat.eq_zero_or_pos (i - xs.length) with z | z
      · exact z
      · rw [List.getElem?_eq_none (by simp; omega)] at h1; cases h1
    rw [z] at h1 h2
    obtain rfl := Option.some.inj h1
    obtain rfl := Option.some.inj h2
    exact y
theorem eqv_key (k c : Key2) : PyData.eqv (keyD k) (keyD c) = decide (k = c) := by
  obtain ⟨a, b⟩ := k
  obtain ⟨d, e⟩ := c
  unfold keyD
  rw [PyData.eqv, PyData.eqvAll, PyData.eqvAll, PyData.eqvAll, PyData.eqv, PyData.eqv]
  by_cases h : a = d <;> by_cases g : b = e <;> simp [h, g]
theorem any_key (ks : List Key2) (k : Key2) : ((ks.map keyD).any fun z => PyData.eqv z (keyD k)) = decide (k ∈ ks) := by
  induction ks with
  | nil => rfl
  | cons c r ih =>
    rw [List.map_cons, List.any_cons, ih, eqv_key]
    by_cases h : c = k
    · subst h; simp
    · have h2 : ¬ k = c := fun e => h e.symm
      simp [h, h2]
theorem lay_key (k : Key2) : PyData.canLay0 (keyD k) = true := by
  unfold keyD
  rw [PyData.canLay0, PyData.canLayAll0, PyData.canLayAll0, PyData.canLayAll0, PyData.canLay0, PyData.canLay0]
  rfl
theorem depth_key (k : Key2) : PyData.depth (keyD k) = 1 := by
  unfold keyD
  rw [PyData.depth, PyData.depthAll, PyData.depthAll, PyData.depthAll, PyData.depth, PyData.depth]
  rfl
theorem lay_keys : ∀ M : List Key2, PyData.canLayAll0 (M.map keyD) = true
  | [] => by simp [PyData.canLayAll0]
  | d :: r => by rw [List.map_cons, PyData.canLayAll0, lay_keys r, lay_key]; rfl
theorem depth_keys : ∀ M : List Key2, PyData.depthAll (M.map keyD) ≤ 1
  | [] => by simp [PyData.depthAll]
  | d :: r => by
    rw [List.map_cons, PyData.depthAll, depth_key]
    have := depth_keys r
    omega
theorem shaped_key (k : Key2) : SeqAt.shaped (keyD k) = true := by
  unfold SeqAt.shaped
  rw [lay_key, depth_key]; rfl
theorem shaped_keys (M : List Key2) : SeqAt.shaped (.list (M.map keyD)) = true := by
  have h := depth_keys M
  unfold SeqAt.shaped
  rw [PyData.canLay0, PyData.depth, lay_keys]
  simp only [Bool.true_and, decide_eq_true_eq]
  omega
theorem dp_key {K : PySem.W.Frag} {H : Hp} {v : V} {k : Key2} (h : KyAt H v k) : Dp K H v (keyD k) := by
  obtain ⟨a, rfl, h1⟩ := h
  exact .tup (SqT.of h1) (.cons (.int k.1) (.cons (.int k.2) .nil))
theorem dp_keys {K : PySem.W.Frag} {H : Hp} : ∀ (xs : List V) (ks : List Key2), KysAt H xs ks → DpAll K H xs (ks.map keyD)
  | [], [], _ => .nil
  | [], s :: r, h => by cases h.1
  | x :: xs, [], h => by cases h.1
  | x :: xs, s :: r, h => .cons (dp_key (h.2 0 x s rfl rfl)) (dp_keys xs r ⟨Nat.succ.inj h.1, fun i y t h1 h2 => h.2 (i + 1) y t h1 h2⟩)
theorem notIn_keys {K : PySem.W.Frag} {H : Hp} {v : V} {b : Addr} {xs : List V} {ks : List Key2} {k : Key2} {Q : V → Hp → Prop} (hv : KyAt H v k) (hb : H b = some (.lst xs)) (hx : KysAt H xs ks) (q : Q (.bl (!decide (k ∈ ks))) H) : rNotInD K v (.ref b) H Q := by
  refine ⟨_, _, dp_key hv, .lst (SqL.of hb) (dp_keys xs ks hx), shaped_key k, shaped_keys ks, ?_⟩
  rw [any_key]
  exact q
theorem plc_first : ∀ {ks : List Key2} {k : Key2} (m : Nat) (c : Key2), m < plc ks k → ks[m]? = some c → c ≠ k
  | [], k, m, c, h, e => by cases e
  | d :: r, k, m, c, h, e => by
    unfold plc at h
    by_cases z : d = k
    · rw [if_pos z] at h; exact absurd h (Nat.not_lt_zero m)
    · rw [if_neg z] at h
      match m, e with
      | 0, e => obtain rfl := Option.some.inj e; exact z
      | m + 1, e => exact plc_first m c (by omega) e
theorem index_keys {K : PySem.W.Frag} {H : Hp} {v : V} {b : Addr} {xs : List V} {ks : List Key2} {k : Key2} {Q : V → Hp → Prop} (hv : KyAt H v k) (hb : H b = some (.lst xs)) (hx : KysAt H xs ks) (hm : k ∈ ks) (q : Q (.int (plc ks k : Nat)) H) : rIndexD K (.ref b) [v] H Q := by
  refine ⟨b, v, _, _, plc ks k, keyD k, rfl, rfl, .lst (SqL.of hb) (dp_keys xs ks hx), dp_key hv, shaped_keys ks, shaped_key k, ?_, ?_, fun m z hmm hz => ?_, q⟩
  · rw [List.getElem?_map, plc_mem hm]; rfl
  · rw [eqv_key]; simp
  · rw [List.getElem?_map] at hz
    cases e : ks[m]? with
    | none => rw [e] at hz; cases hz
    | some c =>
      rw [e] at hz
      obtain rfl := Option.some.inj hz
      rw [eqv_key]
      exact decide_eq_false (plc_first m c hmm e)
end Tw
namespace Tw
open PySem PySem.Spec PyProof.Rows L2
/-! ### {k: v}, the key a tuple -/
end Tw
namespace Tw
open PySem PySem.Spec PyProof.Rows L2
/-! ### what a dict of places holds -/
def kys (c : Key2) : List Key := [.inl c.1, .inl c.2]
theorem kys_inj {c d : Key2} (h : kys c = kys d) : c = d := by
  unfold kys at h
  injection h with h1 h2
  injection h2 with h2 _
  injection h1 with h1
  injection h2 with h2
  exact Prod.ext h1 h2
structure PlOk (kvs : List (List Key × V)) (ks : List Key2) : Prop where
  len : kvs.length ≤ ks.length
  val : ∀ c, valV kvs (kys c) = if c ∈ ks then some (.int (plc ks c : Nat)) else none
theorem pl_add {kvs : List (List Key × V)} {ks : List Key2} {c : Key2} (h : PlOk kvs ks) (hn : c ∉ ks) : PlOk (putK kvs (kys c) (.int (ks.length : Nat))) (ks ++ [c]) := by
  refine ⟨?_, fun d => ?_⟩
  · have := length_putK kvs (kys c) (.int (ks.length : Nat))
    have := h.len
    rw [List.length_append]
    show _ ≤ ks.length + 1
    omega
  · rw [valV_put]
    by_cases e : d = c
    · subst e
      rw [if_pos rfl, if_pos (by simp), plc_snoc hn]
    · rw [if_neg (fun z => e (kys_inj z)), h.val d]
      by_cases m : d ∈ ks
      · rw [if_pos m, if_pos (List.mem_append_left _ m), plc_app _ m]
      · rw [if_neg m, if_neg (fun z => (List.mem_append.mp z).elim m fun z => e (List.mem_singleton.mp z))]
/-- the dict d holds the places of ks -/
def PlAt (H : Hp) (d : Addr) (ks : List Key2) : Prop := ∃ kvs, H d = some (.dT kvs) ∧ PlOk kvs ks
theorem PlAt.get {H : Hp} {d a : Addr} {ks : List Key2} {c : Key2} (h : PlAt H d ks) (ha : H a = some (.tup [.int c.1, .int c.2])) : DGet H d (.ref a) (if c ∈ ks then some (.int (plc ks c : Nat)) else none) := by
  obtain ⟨kvs, hd, ok⟩ := h
  rw [← ok.val c]
  exact DGet.t hd ha
theorem PlAt.put {H : Hp} {d a : Addr} {ks : List Key2} {c : Key2} (h : PlAt H d ks) (ha : H a = some (.tup [.int c.1, .int c.2])) (hn : c ∉ ks) (hl : ks.length < 1000) : ∃ kvs, DPut H d (.ref a) (.int (ks.length : Nat)) (upd H d (.dT kvs)) ∧ PlAt (upd H d (.dT kvs)) d (ks ++ [c]) := by
  obtain ⟨kvs, hd, ok⟩ := h
  have := ok.len
  exact ⟨_, DPut.t (k := kys c) hd ha (small1000 (by omega)), _, upd_same, pl_add ok hn⟩
end Tw
namespace Tw
open PySem PySem.Spec PyProof.Rows L2
/-! ### len(x) by an own __len__; == of tuples and lists of ints; more of nested equality -/
section
variable {X : Cx} {n : Nat} {C : Addr}
def rLenO (C : Addr) (sp : Sp) : List V → Hp → VK → Prop := fun vs H Q => ∃ a dx fs, vs = [.ref a] ∧ H a = some (.ins C dx fs) ∧ sp [.ref a] H (fun v H' => ∃ k : Int, v = .int k ∧ 0 ≤ k ∧ k < 2 ^ 63 ∧ Q (.int k) H') E0
structure Ol (P : Program) (w : World) (K : PySem.W.Frag) (mg : Str → Option Value) (base : Heap) (k : Nat) (C : Addr) (ps : List Str) (sp : Sp) : Prop where
  ex : ∃ f fd, PySem.W.findIn K (.ref C) "__len__" = some (some (.ref f)) ∧ PySem.W.isFn K (.ref f) = true ∧ Binds K fd ps [] ∧ FnOk P w K mg base CX0 k f fd ps sp
theorem run_own1 {f : Addr} {fd : FuncData} {ps : List Str} {sp : Sp} {pins : List (Addr × Obj)} {σ : L2.St} {H : Hp} {s : Shared} {A : Around} {a : Addr} {Q : VK} (hf : A.frames = X.A.frames) (hr : Room n A) (F : FnOk X.prog X.w X.K X.mg X.base CX0 n f fd ps sp) (hb : Binds X.K fd ps [])
    (I : Inv X pins σ H s) (h : sp [.ref a] H Q E0) : wpAny (model X.prog X.w) A (call (.ref f) [.ref a]) (fun u s' => ∃ v H', Inv X pins σ H' s' ∧ RelV v u ∧ Q v H') X.xe s := by
  have e0 : Env0 X.prog X.w X.K X.mg X.base A X.stack s H := by
    have e := I.env0
    exact ⟨by rw [hf]; exact e.frames, e.mod, e.bs, e.bsz, e.funs, e.frf, e.hok, e.bare⟩
  have hl := F.len _ _ _ _ h
  have r2 : Vals [V.ref a] [Value.ref a] := .cons rfl .nil
  refine wpAny_call (codeAny_mono (F.run A X.stack s H ⟨[.ref a], []⟩ [.ref a] [.ref a] Q E0 hr e0 (by
    have := hb s [.ref a] I.kIn (by simpa using hl)
    simpa using this) r2 h) fun r s' hq => ?_)
  cases r with
  | error e => exact hq.elim
  | ok fl =>
    cases fl with
    | ret u =>
      obtain ⟨v, H', I', rv, q⟩ := I.after hq
      exact ⟨v, H', I', rv, q⟩
    | next => exact hq.elim
    | brk => exact hq.elim
    | cont => exact hq.elim
theorem call_lenO {ps : List Str} {sp : Sp} (W : Ol X.prog X.w X.K X.mg X.base n C ps sp) (hr : Room (n + 1) X.A) : CallR X (.builtin "len") (rLenO C sp) := by
  intro pins s σ H xs us Q I r h
  obtain ⟨a, dx, fs, rfl, ha, q⟩ := h
  obtain ⟨f, fd, hs, hf, hbb, F⟩ := W.ex
  obtain ⟨u, rfl, ru⟩ := vals1 r
  cases ru
  obtain ⟨mA, J, _⟩ := ins_get I.hok ha
  obtain ⟨od, J, _⟩ := J.look
  obtain ⟨m, hF⟩ := I.fr
  refine PySem.W.len_K hF I.ok.mod.kin J hs hf (wpAny_mono (run_own1 (A := X.A.in1) rfl hr.in1 F hbb I q) (fun r s' z => ?_) fun _ _ x => x)
  obtain ⟨v, H', I', rv, c, rfl, k0, k1, qq⟩ := z
  obtain ⟨t, rfl⟩ := rv
  exact ⟨⟨k0, k1⟩, .int c, H', I'.tok _, ⟨_, rfl⟩, qq⟩
theorem n_lenO {P : Program} {w : World} {K : PySem.W.Frag} {mg : Str → Option Value} {base : Heap} {j n : Nat} {X : Cx} {NS WS : List (Str × Nat)} {G : List Str} {ps : List Str} {sp : Sp} {p pos : Pos} {e : Expr} {es : List Expr} {t : TA} (h : Nm P w K mg base j X NS WS G) (hm : mg "len" = none) (hg : ("len" : Str) ∈ G) (W : Ol P w K mg base n C ps sp) (hk : n + 1 ≤ j) (ha : PA X (e :: es) t)
    (he : starEach (e :: es) X.env = (false, eval e X.env) :: starEach es X.env := by rfl) (hpl : (backTo pos (starEach es X.env)).any (·.1) = false := by rfl) : PE X (.Call (.Name "len" p) (e :: es) [] pos) (tCB (rLenO C sp) t) := by
  have h' := h
  obtain ⟨h1, h2, h3, h4, h5, hr, _, _, _, _, hgl⟩ := h'
  subst h1 h2 h3 h4 h5
  exact n_b h hm (call_lenO W (hr.mono hk)) PySem.boot_len hg ha he hpl
end
/-- lists and tuples item by item -/
inductive AllEqd (K : PySem.W.Frag) (H : Hp) (n : Nat) : List V → List V → Prop
  | nil : AllEqd K H n [] []
  | cons {x y : V} {xs ys : List V} (h : Eqd K H n x y) (t : AllEqd K H n xs ys) : AllEqd K H n (x :: xs) (y :: ys)
end Tw
namespace Tw
open PySem PySem.Spec PyProof.Rows L2
/-! ### counts, their next ones, their totals -/
def firstC (M : Mach) (st : Int) : List Int := (List.range M.length).map fun (i : Nat) => if (i : Int) = st then 1 else 0
def addA (l : List Int) (g c : Int) : List Int := l.set g.toNat (l.getD g.toNat 0 + c)
def addR (l gs : List Int) (c : Int) : List Int := gs.foldl (fun l g => addA l g c) l
def sumC (M : Mach) (cs : List Int) : Nat → List Int
  | 0 => List.replicate M.length 0
  | k + 1 => addR (sumC M cs k) (M.getD k (0, [])).2 (cs.getD k 0)
def nextC (p : Int) (M : Mach) (cs : List Int) : List Int := (sumC M cs M.length).map (· % p)
def prodC (M : Mach) (cs : List Int) : List Int := (List.range M.length).map fun k => cs.getD k 0 * (M.getD k (0, [])).1
def totC (p : Int) (M : Mach) (cs : List Int) : Int := (prodC M cs).sum % p
structure CsOk (p : Int) (M : Mach) (cs : List Int) : Prop where
  len : cs.length = M.length
  val : ∀ d ∈ cs, 0 ≤ d ∧ d < p
theorem addA_len (l : List Int) (g c : Int) : (addA l g c).length = l.length := by unfold addA; rw [List.length_set]
theorem addR_len (gs : List Int) (c : Int) : ∀ l : List Int, (addR l gs c).length = l.length := by
  induction gs with
  | nil => intro l; rfl
  | cons g r ih => intro l; show (addR (addA l g c) r c).length = _; rw [ih, addA_len]
theorem sumC_len (M : Mach) (cs : List Int) : ∀ k, (sumC M cs k).length = M.length
  | 0 => by simp [sumC]
  | k + 1 => by rw [sumC, addR_len, sumC_len M cs k]
theorem addR_snoc (l gs : List Int) (g c : Int) : addR l (gs ++ [g]) c = addA (addR l gs c) g c := by unfold addR; rw [List.foldl_append]; rfl
theorem nextC_ok {p : Int} (hP : IsP p) (M : Mach) (cs : List Int) : CsOk p M (nextC p M cs) := by
  have p2 := hP.two
  refine ⟨by unfold nextC; rw [List.length_map, sumC_len], fun d hd => ?_⟩
  obtain ⟨x, _, rfl⟩ := List.mem_map.mp hd
  exact md_in hP x
theorem firstC_ok {p : Int} (hP : IsP p) (M : Mach) (st : Int) : CsOk p M (firstC M st) := by
  have p2 := hP.two
  refine ⟨by unfold firstC; rw [List.length_map, List.length_range], fun d hd => ?_⟩
  obtain ⟨i, _, rfl⟩ := List.mem_map.mp hd
  show 0 ≤ (if (i : Int) = st then (1 : Int) else 0) ∧ (if (i : Int) = st then (1 : Int) else 0) < p
  split <;> omega
/-! the law's own: a rest behind each step -/
def addM (p : Int) (l : List Int) (g c : Int) : List Int := l.set g.toNat ((l.getD g.toNat 0 + c) % p)
def addMR (p : Int) (l gs : List Int) (c : Int) : List Int := gs.foldl (fun l g => addM p l g c) l
def lawC (p : Int) (M : Mach) (cs : List Int) : Nat → List Int
  | 0 => List.replicate M.length 0
  | k + 1 => addMR p (lawC p M cs k) (M.getD k (0, [])).2 (cs.getD k 0)
theorem md_add (h : IsP p) (a c : Int) : (a % p + c) % p = (a + c) % p := by rcases h with rfl | rfl | rfl | rfl <;> omega
theorem getD_md {p : Int} (l : List Int) (i : Nat) : (l.map (· % p)).getD i 0 = (l.getD i 0) % p := by
  rw [List.getD_eq_getElem?_getD, List.getD_eq_getElem?_getD, List.getElem?_map]
  cases l[i]? with
  | none => simp
  | some x => rfl
theorem addM_map {p : Int} (hP : IsP p) (l : List Int) (g c : Int) : addM p (l.map (· % p)) g c = (addA l g c).map (· % p) := by
  unfold addM addA
  rw [List.map_set, getD_md, md_add hP]
theorem addMR_map {p : Int} (hP : IsP p) (gs : List Int) (c : Int) : ∀ l : List Int, addMR p (l.map (· % p)) gs c = (addR l gs c).map (· % p) := by
  induction gs with
  | nil => intro l; rfl
  | cons g r ih =>
    intro l
    show addMR p (addM p (l.map (· % p)) g c) r c = (addR (addA l g c) r c).map (· % p)
    rw [addM_map hP, ih]
theorem lawC_eq {p : Int} (hP : IsP p) (M : Mach) (cs : List Int) : ∀ k, lawC p M cs k = (sumC M cs k).map (· % p)
  | 0 => by simp [lawC, sumC]
  | k + 1 => by rw [lawC, sumC, lawC_eq hP M cs k, addMR_map hP]
theorem addM_len (p : Int) (l : List Int) (g c : Int) : (addM p l g c).length = l.length := by unfold addM; rw [List.length_set]
theorem addMR_len (p : Int) (gs : List Int) (c : Int) : ∀ l : List Int, (addMR p l gs c).length = l.length := by
  induction gs with
  | nil => intro l; rfl
  | cons g r ih => intro l; show (addMR p (addM p l g c) r c).length = _; rw [ih, addM_len]
theorem lawC_len (p : Int) (M : Mach) (cs : List Int) : ∀ k, (lawC p M cs k).length = M.length
  | 0 => by simp [lawC]
  | k + 1 => by rw [lawC, addMR_len, lawC_len p M cs k]
theorem addMR_snoc (p : Int) (l gs : List Int) (g c : Int) : addMR p l (gs ++ [g]) c = addM p (addMR p l gs c) g c := by unfold addMR; rw [List.foldl_append]; rfl
/-! ### walks over pairs of a list or a tuple and a list -/
theorem pi_or {X : Cx} {tg it : Expr} {wa wb : TI} (ha : PI X tg it wa) (hb : PI X tg it wb) : PI X tg it (fun σ H R => wa σ H R ∨ wb σ H R) := by
  refine ⟨fun pins s σ H R I h => ?_⟩
  rcases h with h | h
  · exact ha.run pins s σ H R I h
  · exact hb.run pins s σ H R I h
/-- pairs, one by one; S: what holds of the heap meanwhile -/
structure PairsJ (J : It) (S : Hp → Prop) (xs ys : List V) : Prop where
  go : ∀ H (j : Nat) x y, S H → xs[j]? = some x → ys[j]? = some y → J.go j H
  stop : ∀ H, S H → J.stop xs.length H
  yl : ∀ H (j : Nat) v H', S H → J.yld j H v H' → ∃ T x y, v = .ref T ∧ H T = none ∧ H' = upd H T (.tup [x, y]) ∧ xs[j]? = some x ∧ ys[j]? = some y
theorem pj_L {K : PySem.W.Frag} {a b : Addr} {xs ys : List V} {S : Hp → Prop} (h : ∀ H, S H → SqL K H a xs ∧ SqL K H b ys) : PairsJ (Itz K a b) S xs ys := by
  refine ⟨fun H j x y s1 h1 h2 => ⟨xs, ys, x, y, (h H s1).1, (h H s1).2, h1, h2⟩, fun H s1 => ⟨xs, ys, (h H s1).1, (h H s1).2, .inl (Nat.le_refl _)⟩, fun H j v H' s1 hy => ?_⟩
  obtain ⟨T, u, z, e1, e2, e3, e4, e5⟩ := hy
  exact ⟨T, u, z, e1, e2, e3, e4 xs (h H s1).1, e5 ys (h H s1).2⟩
theorem pj_M {K : PySem.W.Frag} {a b : Addr} {xs ys : List V} {S : Hp → Prop} (hl : xs.length = ys.length) (h : ∀ H, S H → SqT K H a xs ∧ SqL K H b ys) : PairsJ (ItzM K a b) S xs ys := by
  refine ⟨fun H j x y s1 h1 h2 => ⟨xs, ys, x, y, (h H s1).1, (h H s1).2, h1, h2⟩, fun H s1 => ⟨xs, ys, (h H s1).1, (h H s1).2, hl, rfl⟩, fun H j v H' s1 hy => ?_⟩
  obtain ⟨T, u, z, e1, e2, e3, e4, e5⟩ := hy
  exact ⟨T, u, z, e1, e2, e3, e4 xs (h H s1).1, e5 ys (h H s1).2⟩
/-- a loop over such pairs -/
theorem for_pairs {J : It} {S : Hp → Prop} {xs ys : List V} {g : TG} {tb : TS} {D : Ends} {σ : L2.St} {H : Hp} (hj : PairsJ J S xs ys) (hl : xs.length = ys.length) (Pv : Nat → L2.St → Hp → Prop) (h0 : Pv 0 σ H) (hq : ∀ i σ H, Pv i σ H → S H)
    (hs : ∀ (i : Nat) (x y : V) (T : Addr) (σ : L2.St) (H : Hp), xs[i]? = some x → ys[i]? = some y → Pv i σ H → H T = none → g (.ref T) σ (upd H T (.tup [x, y])) fun σ2 H2 => tb { D with nx := Pv (i + 1), ct := Pv (i + 1), bk := D.nx } σ2 H2) (hd : ∀ σ H, Pv xs.length σ H → D.nx σ H) :
    ∃ W : Nat → Nat → L2.St → Hp → Prop, (∃ m, W 0 m σ H) ∧ ∀ i m σ H, W i m σ H →
      (J.stop i H ∧ D.nx σ H) ∨ (J.go i H ∧ ∃ N : L2.St → Hp → Prop, (∀ σ' H', N σ' H' → ∃ m', m' < m ∧ W (i + 1) m' σ' H') ∧ ∀ v H', J.yld i H v H' → g v σ H' fun σ2 H2 => tb { D with nx := N, ct := N, bk := D.nx } σ2 H2) := by
  refine ⟨fun i m σ H => m = xs.length - i ∧ i ≤ xs.length ∧ Pv i σ H, ⟨xs.length, rfl, Nat.zero_le _, h0⟩, ?_⟩
  rintro i m σ H ⟨rfl, hi, p⟩
  have s1 := hq i σ H p
  by_cases hlt : i < xs.length
  · have hx : xs[i]? = some xs[i] := List.getElem?_eq_getElem hlt
    have hlt2 : i < ys.length := by omega
    have hy : ys[i]? = some ys[i] := List.getElem?_eq_getElem hlt2
    refine .inr ⟨hj.go H i _ _ s1 hx hy, Pv (i + 1), fun σ' H' p' => ⟨xs.length - (i + 1), by omega, rfl, hlt, p'⟩, fun v H' y => ?_⟩
    obtain ⟨T, x', y', rfl, hT, rfl, f1, f2⟩ := hj.yl H i v H' s1 y
    exact hs i x' y' T σ H f1 f2 p hT
  · have e : i = xs.length := by omega
    subst e
    exact .inl ⟨hj.stop H s1, hd σ H p⟩
/-- a comprehension over such pairs -/
theorem lc_pairs {J : It} {xs ys fs : List V} {g : TG} {te : TE} {vs : List Nat} {σ : L2.St} {H1 : Hp} {D : Addr} {Qd : Hp → Prop} (hj : PairsJ J (Same H1) xs ys) (hlen : xs.length = ys.length) (hD : H1 D = none) (hl : fs.length = xs.length) (hz : xs.length < sizeLine)
    (he : ∀ (j : Nat) x y z T H (Qk : V → Hp → Prop), xs[j]? = some x → ys[j]? = some y → fs[j]? = some z → Same H1 H → H T = none → (∀ H2, Same (upd H T (.tup [x, y])) H2 → Qk z H2) → g (.ref T) (wipe σ vs) (upd H T (.tup [x, y])) fun σ2 H2 => wipe σ2 vs = wipe σ vs ∧ te σ2 H2 Qk)
    (hd : ∀ H', Same H1 H' → H' D = some (.lst fs) → Qd H')
    (hgm : ∀ v σ H (A B : L2.St → Hp → Prop), (∀ σ H, A σ H → B σ H) → g v σ H A → g v σ H B) :
    ∃ W : Nat → Nat → Hp → Prop, (∃ m, W 0 m (upd H1 D (.lst []))) ∧ ∀ i' m H, W i' m H →
      (J.stop i' H ∧ Qd H) ∨ (J.go i' H ∧ ∃ Nx : Hp → Prop, (∀ H', Nx H' → ∃ m', m' < m ∧ W (i' + 1) m' H') ∧ ∀ x H', J.yld i' H x H' → g x (wipe σ vs) H' fun σ2 H2 => wipe σ2 vs = wipe σ vs ∧ tYes σ2 H2 fun b H3 =>
        if b = true then te σ2 H3 fun y H4 => ∃ acc, H4 D = some (.lst acc) ∧ acc.length < sizeLine ∧ Nx (upd H4 D (.lst (acc ++ [y]))) else Nx H3) := by
  refine ⟨fun j m H => m = xs.length - j ∧ j ≤ xs.length ∧ Same H1 H ∧ H D = some (.lst (fs.take j)), ⟨xs.length, rfl, Nat.zero_le _, same_new hD, by rw [upd_same]; rfl⟩, ?_⟩
  rintro j m H ⟨rfl, hj', s1, hDl⟩
  by_cases c : j < xs.length
  · have hx : xs[j]? = some xs[j] := List.getElem?_eq_getElem c
    have hyy : ys[j]? = some ys[j] := List.getElem?_eq_getElem (by omega)
    have hf : fs[j]? = some fs[j] := List.getElem?_eq_getElem (by omega)
    refine .inr ⟨hj.go H j _ _ s1 hx hyy, fun H' => Same H1 H' ∧ H' D = some (.lst (fs.take (j + 1))), fun H' p => ⟨xs.length - (j + 1), by omega, rfl, c, p⟩, ?_⟩
    intro v H' hyl
    obtain ⟨T, x, y, rfl, hT', rfl, ex, ey⟩ := hj.yl H j v H' s1 hyl
    have s2 : Same H (upd H T (.tup [x, y])) := same_new hT'
    refine hgm _ _ _ _ _ (fun σ2 H2 p => ⟨p.1, yes_ p.2⟩) (he j x y _ T H _ ex ey hf s1 hT' fun H2 s3 => ⟨_, s3 _ _ (s2 _ _ hDl), ?_, same_put (Same.trans (Same.trans s1 s2) s3) hD, ?_⟩)
    · rw [List.length_take]; omega
    · rw [upd_same, List.take_add_one, hf]; rfl
  · have e : j = xs.length := by omega
    subst e
    rw [← hl, List.take_length] at hDl
    exact .inl ⟨hj.stop H s1, hd H s1 hDl⟩
/-- items, one by one -/
structure SeqJ (J : It) (S : Hp → Prop) (xs : List V) : Prop where
  go : ∀ H (j : Nat) x, S H → xs[j]? = some x → J.go j H
  stop : ∀ H, S H → J.stop xs.length H
  yl : ∀ H (j : Nat) v H', S H → J.yld j H v H' → H' = H ∧ xs[j]? = some v
theorem sj_L {K : PySem.W.Frag} {a : Addr} {xs : List V} {S : Hp → Prop} (h : ∀ H, S H → SqL K H a xs) : SeqJ (Itl K a) S xs := by
  refine ⟨fun H j x s1 h1 => ⟨xs, x, h H s1, h1⟩, fun H s1 => ⟨xs, h H s1, Nat.le_refl _⟩, fun H j v H' s1 hy => ⟨hy.1, hy.2 xs (h H s1)⟩⟩
theorem sj_T {K : PySem.W.Frag} {a : Addr} {xs : List V} {S : Hp → Prop} (h : ∀ H, S H → SqT K H a xs) : SeqJ (Itt K a) S xs := by
  refine ⟨fun H j x s1 h1 => ⟨xs, x, h H s1, h1⟩, fun H s1 => ⟨xs, h H s1, Nat.le_refl _⟩, fun H j v H' s1 hy => ⟨hy.1, hy.2 xs (h H s1)⟩⟩
theorem for_seq {J : It} {S : Hp → Prop} {xs : List V} {g : TG} {tb : TS} {D : Ends} {σ : L2.St} {H : Hp} (hj : SeqJ J S xs) (Pv : Nat → L2.St → Hp → Prop) (h0 : Pv 0 σ H) (hq : ∀ i σ H, Pv i σ H → S H)
    (hs : ∀ (i : Nat) (x : V) (σ : L2.St) (H : Hp), xs[i]? = some x → Pv i σ H → g x σ H fun σ2 H2 => tb { D with nx := Pv (i + 1), ct := Pv (i + 1), bk := D.nx } σ2 H2) (hd : ∀ σ H, Pv xs.length σ H → D.nx σ H) :
    ∃ W : Nat → Nat → L2.St → Hp → Prop, (∃ m, W 0 m σ H) ∧ ∀ i m σ H, W i m σ H →
      (J.stop i H ∧ D.nx σ H) ∨ (J.go i H ∧ ∃ N : L2.St → Hp → Prop, (∀ σ' H', N σ' H' → ∃ m', m' < m ∧ W (i + 1) m' σ' H') ∧ ∀ v H', J.yld i H v H' → g v σ H' fun σ2 H2 => tb { D with nx := N, ct := N, bk := D.nx } σ2 H2) := by
  refine ⟨fun i m σ H => m = xs.length - i ∧ i ≤ xs.length ∧ Pv i σ H, ⟨xs.length, rfl, Nat.zero_le _, h0⟩, ?_⟩
  rintro i m σ H ⟨rfl, hi, p⟩
  have s1 := hq i σ H p
  by_cases hlt : i < xs.length
  · have hx : xs[i]? = some xs[i] := List.getElem?_eq_getElem hlt
    refine .inr ⟨hj.go H i _ s1 hx, Pv (i + 1), fun σ' H' p' => ⟨xs.length - (i + 1), by omega, rfl, hlt, p'⟩, fun v H' y => ?_⟩
    obtain ⟨rfl, f1⟩ := hj.yl H i v H' s1 y
    exact hs i v σ _ f1 p
  · have e : i = xs.length := by omega
    subst e
    exact .inl ⟨hj.stop H s1, hd σ H p⟩
theorem lc_seq {J : It} {xs fs : List V} {g : TG} {te : TE} {vs : List Nat} {σ : L2.St} {H1 : Hp} {D : Addr} {Qd : Hp → Prop} (hj : SeqJ J (Same H1) xs) (hD : H1 D = none) (hl : fs.length = xs.length) (hz : xs.length < sizeLine)
    (he : ∀ (j : Nat) x z H (Qk : V → Hp → Prop), xs[j]? = some x → fs[j]? = some z → Same H1 H → (∀ H2, Same H H2 → Qk z H2) → g x (wipe σ vs) H fun σ2 H2 => wipe σ2 vs = wipe σ vs ∧ te σ2 H2 Qk)
    (hd : ∀ H', Same H1 H' → H' D = some (.lst fs) → Qd H')
    (hgm : ∀ v σ H (A B : L2.St → Hp → Prop), (∀ σ H, A σ H → B σ H) → g v σ H A → g v σ H B) :
    ∃ W : Nat → Nat → Hp → Prop, (∃ m, W 0 m (upd H1 D (.lst []))) ∧ ∀ i' m H, W i' m H →
      (J.stop i' H ∧ Qd H) ∨ (J.go i' H ∧ ∃ Nx : Hp → Prop, (∀ H', Nx H' → ∃ m', m' < m ∧ W (i' + 1) m' H') ∧ ∀ x H', J.yld i' H x H' → g x (wipe σ vs) H' fun σ2 H2 => wipe σ2 vs = wipe σ vs ∧ tYes σ2 H2 fun b H3 =>
        if b = true then te σ2 H3 fun y H4 => ∃ acc, H4 D = some (.lst acc) ∧ acc.length < sizeLine ∧ Nx (upd H4 D (.lst (acc ++ [y]))) else Nx H3) := by
  refine ⟨fun j m H => m = xs.length - j ∧ j ≤ xs.length ∧ Same H1 H ∧ H D = some (.lst (fs.take j)), ⟨xs.length, rfl, Nat.zero_le _, same_new hD, by rw [upd_same]; rfl⟩, ?_⟩
  rintro j m H ⟨rfl, hj', s1, hDl⟩
  by_cases c : j < xs.length
  · have hx : xs[j]? = some xs[j] := List.getElem?_eq_getElem c
    have hf : fs[j]? = some fs[j] := List.getElem?_eq_getElem (by omega)
    refine .inr ⟨hj.go H j _ s1 hx, fun H' => Same H1 H' ∧ H' D = some (.lst (fs.take (j + 1))), fun H' p => ⟨xs.length - (j + 1), by omega, rfl, c, p⟩, ?_⟩
    intro v H' hyl
    obtain ⟨rfl, ex⟩ := hj.yl H j v H' s1 hyl
    refine hgm _ _ _ _ _ (fun σ2 H2 p => ⟨p.1, yes_ p.2⟩) (he j v _ _ _ ex hf s1 fun H2 s3 => ⟨_, s3 _ _ hDl, ?_, same_put (Same.trans s1 s3) hD, ?_⟩)
    · rw [List.length_take]; omega
    · rw [upd_same, List.take_add_one, hf]; rfl
  · have e : j = xs.length := by omega
    subst e
    rw [← hl, List.take_length] at hDl
    exact .inl ⟨hj.stop H s1, hd H s1 hDl⟩
theorem gm_name {i : Nat} : ∀ v σ H (A B : L2.St → Hp → Prop), (∀ σ H, A σ H → B σ H) → gName i v σ H A → gName i v σ H B := fun v σ H A B hh q => hh _ _ q
/-- f(k = e, ..), f a def of the text, nothing by position -/
structure DfK (P : Program) (w : World) (K : PySem.W.Frag) (mg : Str → Option Value) (base : Heap) (k : Nat) (x : Str) (ps ks : List Str) (gV : List V → List V → List V) (sp : Sp) : Prop where
  ex : ∃ f fd, ∃ g : List Value → List Value → List Value, mg x = some (.ref f) ∧ PySem.W.keepIn K (.ref f) = true ∧ KBn K fd ps 0 ks g gV ∧ FnOk P w K mg base CX0 k f fd ps sp
def tDK (m : Nat) (gV : List V → List V → List V) (sp : Sp) (tk : TA) : TE := fun σ H Q => tk σ H fun zs H2 => zs.length = m ∧ sp (gV [] zs) H2 Q E0
theorem n_dK {P : Program} {w : World} {K : PySem.W.Frag} {mg : Str → Option Value} {base : Heap} {j k : Nat} {X : Cx} {NS WS : List (Str × Nat)} {G : List Str} {x : Str} {p pos : Pos} {kws : List Keyword} {tk : TA} {ps ks : List Str} {sp : Sp} {gV : List V → List V → List V}
    (h : Nm P w K mg base j X NS WS G) (D : DfK P w K mg base k x ps ks gV sp) (hk : k ≤ j) (hg : x ∈ G) (hkw : PK X kws tk)
    (hall : (backToKw pos (keywordEach kws X.env)).all (·.1.isSome) = true := by rfl) (hks : (backToKw pos (keywordEach kws X.env)).filterMap (·.1) = ks := by rfl)
    (hpl : ((backTo pos (starEach [] X.env)).any (·.1) || (backToKw pos (keywordEach kws X.env)).any (·.1.isNone)) = false := by rfl) :
    PE X (.Call (.Name x p) [] kws pos) (tDK ks.length gV sp tk) := by
  obtain ⟨h1, h2, h3, h4, h5, hr, _, _, _, _, hgl⟩ := h
  subst h1 h2 h3 h4 h5
  obtain ⟨f, fd, g, hm, hkp, hb, F⟩ := D.ex
  refine ⟨fun pins s σ H Q I h => ?_⟩
  refine wpAny_Call_Name_kw (ld_glob I (hgl x hg).1 hm ?_ (hgl x hg).2.1)
  refine PySem.W.callWith_KW0 (h₀ := X.base) I.ok.mod.kin hkp hall (thn (hkw.run pos pins s σ H _ I h) fun ws s2 ⟨zs, H2, I2, rz, l2, q2⟩ => ⟨I2.kIn, ?_⟩) hpl
  rw [hks]
  exact run_fnN (us := []) (vs := []) F (hr.mono hk) hb pass0 I2 .nil rz rfl l2 q2
def g1 {α : Type} (_ zs : List α) : List α := zs
end Tw
namespace Tw
open PySem PySem.Spec PyProof.Rows L2
/-! ### xs[i] op= e; targets of any nesting; small things -/
def rGetN (K : PySem.W.Frag) : V → V → Hp → VK → Prop := fun x y H Q => ∃ p xs i v, x = .ref p ∧ y = .int i ∧ SqL K H p xs ∧ 0 ≤ i ∧ xs[i.toNat]? = some v ∧ Q v H
theorem get_listN {X : Cx} : PGet X (rGetN X.K) := by
  intro pins s σ H o i ov iv Q I ro ri h
  obtain ⟨p, xs, k, z, rfl, rfl, hq, h0, he, q⟩ := h
  cases ro
  obtain ⟨t, rfl⟩ := ri
  obtain ⟨its, r, pl, hz⟩ := I.list hq
  obtain ⟨w, ew, rw'⟩ := r.get he
  have hl := r.length
  have hn := line63
  have hk : k.toNat < xs.length := (List.getElem?_eq_some_iff.mp he).1
  exact wpAny_getItem_list pl.isList h0 (by omega) (by simpa using ew) ⟨z, H, I, rw', q⟩
theorem n_getN {P : Program} {w : World} {K : PySem.W.Frag} {mg : Str → Option Value} {base : Heap} {j : Nat} {X : Cx} {NS WS : List (Str × Nat)} {G : List Str} (h : Nm P w K mg base j X NS WS G) : PGet X (rGetN K) := by
  have q := h.eK
  subst q
  exact get_listN
theorem ix_in {n : Nat} {i : Int} (i0 : 0 ≤ i) (i1 : i < (n : Int)) : ixN n i = some i.toNat := by
  unfold ixN
  rw [if_pos i0, if_pos i1]
def GmS (g : TGs) : Prop := ∀ vs σ H (A B : L2.St → Hp → Prop), (∀ σ H, A σ H → B σ H) → g vs σ H A → g vs σ H B
def Gm (g : TG) : Prop := ∀ v σ H (A B : L2.St → Hp → Prop), (∀ σ H, A σ H → B σ H) → g v σ H A → g v σ H B
theorem gms_nil : GmS gNil := fun vs σ H A B hh q => ⟨q.1, hh _ _ q.2⟩
theorem gms_cons {g : TG} {gs : TGs} (h : Gm g) (hs : GmS gs) : GmS (gCons g gs) := by
  intro vs σ H A B hh q
  obtain ⟨v, r, e, q⟩ := q
  exact ⟨v, r, e, h v σ H _ _ (fun σ' H' z => hs r σ' H' A B hh z) q⟩
theorem gm_tup {K : PySem.W.Frag} {n : Nat} {gs : TGs} (h : GmS gs) : Gm (gTup K n gs) := by
  intro v σ H A B hh q
  obtain ⟨a, xs, e, h1, h2, q⟩ := q
  exact ⟨a, xs, e, h1, h2, h xs σ H A B hh q⟩
theorem gm_nm {i : Nat} : Gm (gName i) := fun v σ H A B hh q => hh _ _ q
theorem map_set_int (l : List Int) (i : Nat) (x : Int) : (l.map V.int).set i (V.int x) = (l.set i x).map V.int := by rw [List.map_set]
theorem map_get_int {l : List Int} {i : Nat} (h : i < l.length) : (l.map V.int)[i]? = some (V.int (l.getD i 0)) := by
  rw [List.getElem?_map, List.getD_eq_getElem?_getD, List.getElem?_eq_getElem h]
  rfl
theorem rep_int (n : Nat) : (List.replicate n [V.int 0]).flatten = (List.replicate n (0 : Int)).map V.int := by
  rw [flat_rep, List.map_replicate]
theorem StsAt.keepT {H H' : Hp} {xs : List V} {M : List (Int × List Int)} {q : Addr} {ys : List V} (x : StsAt H xs M) (hq : H q = some (.lst ys)) (k : Keep q H H') : StsAt H' xs M := ⟨x.1, fun i v s h1 h2 => by
  obtain ⟨a, g, rfl, e1, e2⟩ := x.2 i v s h1 h2
  exact ⟨a, g, rfl, k a _ (ne_of e1 hq (by intro z; cases z)) e1, k g _ (ne_of e2 hq (by intro z; cases z)) e2⟩⟩
end Tw
namespace Tw
open PySem PySem.Spec PyProof.Rows L2
/-! ### states in the order in which they are reached -/
def addI (ks : List Int) (g : Int) : List Int := if g ∈ ks then ks else ks ++ [g]
def rowI (ks gs : List Int) : List Int := gs.foldl addI ks
def ordJ (M : Mach) (s0 : Int) : Nat → List Int
  | 0 => [s0]
  | j + 1 => rowI (ordJ M s0 j) (M.getD ((ordJ M s0 j).getD j 0).toNat (0, [])).2
section
variable {M : Mach} {p : Int}
structure DoneI (M : Mach) (s0 : Int) (J : Nat) : Prop where
  go : ∀ i, i < J → i < (ordJ M s0 i).length
  stop : (ordJ M s0 J).length = J
theorem DoneI.one {s0 : Int} {J L : Nat} (a : DoneI M s0 J) (b : DoneI M s0 L) : J = L := by
  rcases Nat.lt_trichotomy J L with h | h | h
  · have := b.go J h
    have := a.stop
    omega
  · exact h
  · have := a.go L h
    have := b.stop
    omega
end
/-- the dict of what is found -/
structure FdOk (kvs : List (Key × V)) (ks : List Int) : Prop where
  len : kvs.length ≤ ks.length
  val : ∀ c : Int, valV kvs (.inl c : Key) = if c ∈ ks then some (.bl true) else none
theorem inV_ints (g : Int) : ∀ ks : List Int, inV (.int g) (ks.map V.int) = decide (g ∈ ks)
  | [] => rfl
  | c :: r => by
    have ih := inV_ints g r
    unfold inV at ih ⊢
    rw [List.map_cons, List.any_cons, ih]
    show ((c == g) || decide (g ∈ r)) = decide (g ∈ c :: r)
    by_cases e : g = c
    · subst e; simp
    · have : (c == g) = false := by simp; exact fun z => e z.symm
      rw [this, Bool.false_or]
      exact decide_eq_decide.mpr ⟨fun h => List.mem_cons_of_mem _ h, fun h => (List.mem_cons.mp h).resolve_left e⟩
theorem flat_ints : ∀ ks : List Int, (ks.map V.int).all flatV = true
  | [] => rfl
  | c :: r => by rw [List.map_cons, List.all_cons, flat_ints r]; rfl
end Tw
namespace Tw
open PySem PySem.Spec PyProof.Rows L2 TL
/-! ### texts of turners, as lists of signs -/
def nL (z : Int) : List Nat := numL z.toNat
/-! splitting -/
/-! numbers of at most three digits -/
end Tw
namespace Tw
open PySem PySem.Spec PyProof.Rows L2 TL
/-! ### texts walked; a class in a local name; classmethods; lists unpacked -/
section
variable {P : Program} {w : World} {K : PySem.W.Frag} {mg : Str → Option Value} {base : Heap} {j k n : Nat} {X : Cx} {NS WS : List (Str × Nat)} {G : List Str} {x : Str} {i : Nat} {p apos pos : Pos} {e o : Expr} {es : List Expr} {kws : List Keyword} {t tk : TA} {ps ks : List Str} {sp : Sp} {te ta : TE} {C : Addr} {m : Str}
/-- a classmethod of C -/
structure CMf (P : Program) (w : World) (K : PySem.W.Frag) (mg : Str → Option Value) (base : Heap) (k : Nat) (C : Addr) (m : Str) (sp : Sp) : Prop where
  ex : ∃ mc q g, ClX.CRead K C mc ∧ ClX.CMet K C mc m q g ∧ FnR P w K mg base CX0 k g sp
end
end Tw
namespace Tw
open PySem PySem.Spec PyProof.Rows L2 TL
end Tw
namespace Tw
open PySem PySem.Spec PyProof.Rows L2 TL
/-! ### counts step by step -/
def itC (p : Int) (M : Mach) (st : Int) : Nat → List Int
  | 0 => firstC M st
  | n + 1 => nextC p M (itC p M st n)
def totN (p : Int) (M : Mach) (st : Int) (n : Nat) : Int := totC p M (itC p M st n)
theorem itC_ok {p : Int} (hP : IsP p) (M : Mach) (st : Int) : ∀ n, CsOk p M (itC p M st n)
  | 0 => firstC_ok hP M st
  | n + 1 => nextC_ok hP M _
end Tw
namespace Tw
open PySem PySem.Spec PyProof.Rows L2 TL
/-! ### comprehensions that hold a comprehension -/
section
variable {P : Program} {w : World} {K : PySem.W.Frag} {mg : Str → Option Value} {base : Heap} {j k : Nat} {X : Cx} {NS WS NS' WS' : List (Str × Nat)} {G G' : List Str} {N : List Str} {scD scope : Scope} {pos spos : Pos}
end
end Tw
namespace Tw
open PySem PySem.Spec PyProof.Rows L2 TL
/-! ### C.m(k = v), a classmethod -/
section
variable {P : Program} {w : World} {K : PySem.W.Frag} {mg : Str → Option Value} {base : Heap} {j k : Nat} {X : Cx} {NS WS : List (Str × Nat)} {G : List Str} {apos pos : Pos} {o : Expr} {kws : List Keyword} {tk : TA} {ks : List Str} {sp : Sp} {ta : TE} {C : Addr} {m : Str}
structure CMfK (P : Program) (w : World) (K : PySem.W.Frag) (mg : Str → Option Value) (base : Heap) (k : Nat) (C : Addr) (m : Str) (ks : List Str) (gV : List V → List V → List V) (sp : Sp) : Prop where
  ex : ∃ mc q g fd ps, ∃ gg : List Value → List Value → List Value, ClX.CRead K C mc ∧ ClX.CMet K C mc m q g ∧ KBn K fd ps 1 ks gg gV ∧ FnOk P w K mg base CX0 k g fd ps sp
end
/-! machines as data for == -/
end Tw
namespace Tw
open PySem PySem.Spec PyProof.Rows L2
/-! ### own == with any value on the right; what is left of a list or tuple behind a place -/
section
variable {X : Cx} {n : Nat} {C : Addr}
end
theorem cut_drop (xs : List V) (n : Nat) : cutV xs (some (n : Int)) none = xs.drop n := by
  unfold cutV
  rw [HT.sIx_nat, show HT.sIx xs.length xs.length none = xs.length from rfl]
  by_cases c : n ≤ xs.length
  · rw [Nat.min_eq_left c, List.take_of_length_le (by rw [List.length_drop]; exact Nat.le_refl _)]
  · rw [Nat.min_eq_right (by omega), List.drop_eq_nil_of_le (Nat.le_refl _), List.take_nil, List.drop_eq_nil_of_le (by omega)]
theorem sl_anyD {K : PySem.W.Frag} {H : Hp} {a : Addr} {xs : List V} {n : Nat} {Q : V → Hp → Prop} (h : H a = some (.tup xs)) (k : ∀ r H', Same H H' → H' r = some (.tup (xs.drop n)) → Q (.ref r) H') : rSlA K (.ref a) (some (n : Int)) none H Q := by
  refine ⟨a, xs, rfl, SqT.of h, fun w => k a H (fun _ _ e => e) ?_, fun _ p hp => ?_⟩
  · have e := w.1
    rw [HT.sIx_nat] at e
    rw [h]
    rcases Nat.eq_zero_or_pos n with c | c
    · rw [c, List.drop_zero]
    · have : xs.length = 0 := by omega
      rw [List.length_eq_zero_iff.mp this, List.drop_nil]
  · rw [cut_drop]
    exact k p _ (same_new hp) upd_same
theorem sl_list_anyD {K : PySem.W.Frag} {H : Hp} {a : Addr} {xs : List V} {n : Nat} {Q : V → Hp → Prop} (h : H a = some (.lst xs)) (k : ∀ r H', Same H H' → H' r = some (.lst (xs.drop n)) → Q (.ref r) H') : rSlL K (.ref a) (some (n : Int)) none H Q := by
  refine ⟨a, xs, rfl, SqL.of h, fun p hp => ?_⟩
  rw [cut_drop]
  exact k p _ (same_new hp) upd_same
theorem cat_lst {H : Hp} {a b : Addr} {xs ys : List V} {Q : V → Hp → Prop} (ha : H a = some (.lst xs)) (hb : H b = some (.lst ys)) (hz : xs.length + ys.length ≤ 1000) (k : ∀ r H', Same H H' → H r = none → H' r = some (.lst (xs ++ ys)) → Q (.ref r) H') : rCat (.ref a) (.ref b) H Q :=
  ⟨a, b, xs, ys, rfl, rfl, ha, hb, Nat.le_of_lt (small1000 hz), fun p hp => k p _ (same_new hp) hp upd_same⟩
/-! ### a machine with one row changed -/
theorem StsAt.take {H : Hp} {xs : List V} {M : List (Int × List Int)} (h : StsAt H xs M) (n : Nat) : StsAt H (xs.take n) (M.take n) := by
  refine ⟨by rw [List.length_take, List.length_take, h.1], fun i v s h1 h2 => ?_⟩
  rw [List.getElem?_take] at h1 h2
  by_cases c : i < n
  · rw [if_pos c] at h1 h2
    exact h.2 i v s h1 h2
  · rw [if_neg c] at h1
    cases h1
theorem StsAt.drop {H : Hp} {xs : List V} {M : List (Int × List Int)} (h : StsAt H xs M) (n : Nat) : StsAt H (xs.drop n) (M.drop n) := by
  refine ⟨by rw [List.length_drop, List.length_drop, h.1], fun i v s h1 h2 => ?_⟩
  rw [List.getElem?_drop] at h1 h2
  exact h.2 _ v s h1 h2
theorem StsAt.app {H : Hp} {xs ys : List V} {M N : List (Int × List Int)} (h : StsAt H xs M) (g : StsAt H ys N) : StsAt H (xs ++ ys) (M ++ N) := by
  refine ⟨by rw [List.length_append, List.length_append, h.1, g.1], fun i v s h1 h2 => ?_⟩
  by_cases c : i < xs.length
  · rw [List.getElem?_append_left c] at h1
    rw [List.getElem?_append_left (by rw [← h.1]; exact c)] at h2
    exact h.2 i v s h1 h2
  · rw [List.getElem?_append_right (by omega)] at h1
    rw [List.getElem?_append_right (by rw [← h.1]; omega), ← h.1] at h2
    exact g.2 _ v s h1 h2
theorem StsAt.one {H : Hp} {x : V} {s : Int × List Int} (h : StAt H x s) : StsAt H [x] [s] := by
  refine ⟨rfl, fun i v z h1 h2 => ?_⟩
  match i, h1, h2 with
  | 0, h1, h2 =>
    obtain rfl := Option.some.inj h1
    obtain rfl := Option.some.inj h2
    exact h
  | i + 1, h1, h2 => exact absurd h1 (by simp)
theorem OkM.swap {p n : Int} {M : List (Int × List Int)} {s : Int × List Int} (h : OkM p n M) (k : Nat) (h1 : 0 ≤ s.1 ∧ s.1 < p) (h2 : (s.2.length : Int) = p) (h3 : ∀ g ∈ s.2, 0 ≤ g ∧ g < n) : OkM p n (M.take k ++ [s] ++ M.drop (k + 1)) := by
  have key : ∀ z ∈ M.take k ++ [s] ++ M.drop (k + 1), z ∈ M ∨ z = s := fun z hz => by
    rcases List.mem_append.mp hz with hz | hz
    · rcases List.mem_append.mp hz with hz | hz
      · exact .inl (List.mem_of_mem_take hz)
      · exact .inr (List.mem_singleton.mp hz)
    · exact .inl (List.mem_of_mem_drop hz)
  refine ⟨fun z hz => ?_, fun z hz => ?_, fun z hz => ?_⟩ <;> rcases key z hz with hz | rfl
  · exact h.turn z hz
  · exact h1
  · exact h.many z hz
  · exact h2
  · exact h.goal z hz
  · exact h3
end Tw
namespace Tw
open PySem PySem.Spec PyProof.Rows L2
/-! ### enumerate(tuple) -/
theorem st_get {H : Hp} {xs : List V} {M : List (Int × List Int)} {s : Int} (h : StsAt H xs M) (s0 : 0 ≤ s) (s1 : s < (M.length : Int)) : ∃ b g, atI xs s = some (.ref b) ∧ H b = some (.tup [.int (M.getD s.toNat (0, [])).1, .ref g]) ∧ H g = some (.tup ((M.getD s.toNat (0, [])).2.map V.int)) ∧ M.getD s.toNat (0, []) ∈ M := by
  have hm : s.toNat < M.length := by omega
  have hx : s.toNat < xs.length := by rw [h.1]; exact hm
  have e1 : xs[s.toNat]? = some xs[s.toNat] := List.getElem?_eq_getElem hx
  have e2 : M[s.toNat]? = some M[s.toNat] := List.getElem?_eq_getElem hm
  obtain ⟨a, g, ev, h1, h2⟩ := h.2 _ _ _ e1 e2
  have eM : M.getD s.toNat (0, []) = M[s.toNat] := by rw [List.getD_eq_getElem?_getD, e2]; rfl
  refine ⟨a, g, at_of (j := s.toNat) (by omega) (by rw [e1, ev]), ?_, ?_, ?_⟩
  · rw [eM]; exact h1
  · rw [eM]; exact h2
  · rw [eM]; exact List.getElem_mem hm
theorem sl_anyZ {K : PySem.W.Frag} {H : Hp} {a : Addr} {xs : List V} {n : Nat} {z : Int} {Q : V → Hp → Prop} (hz : z = (n : Int)) (h : H a = some (.tup xs)) (k : ∀ r H', Same H H' → H' r = some (.tup (xs.take n)) → Q (.ref r) H') : rSlA K (.ref a) none (some z) H Q := by
  subst hz; exact sl_any h k
theorem sl_anyDZ {K : PySem.W.Frag} {H : Hp} {a : Addr} {xs : List V} {n : Nat} {z : Int} {Q : V → Hp → Prop} (hz : z = (n : Int)) (h : H a = some (.tup xs)) (k : ∀ r H', Same H H' → H' r = some (.tup (xs.drop n)) → Q (.ref r) H') : rSlA K (.ref a) (some z) none H Q := by
  subst hz; exact sl_anyD h k
theorem sl_listZ {K : PySem.W.Frag} {H : Hp} {a : Addr} {xs : List V} {n : Nat} {z : Int} {Q : V → Hp → Prop} (hz : z = (n : Int)) (h : H a = some (.lst xs)) (k : ∀ r H', Same H H' → H' r = some (.lst (xs.take n)) → Q (.ref r) H') : rSlL K (.ref a) none (some z) H Q := by
  subst hz; exact sl_list_any h k
theorem sl_listDZ {K : PySem.W.Frag} {H : Hp} {a : Addr} {xs : List V} {n : Nat} {z : Int} {Q : V → Hp → Prop} (hz : z = (n : Int)) (h : H a = some (.lst xs)) (k : ∀ r H', Same H H' → H' r = some (.lst (xs.drop n)) → Q (.ref r) H') : rSlL K (.ref a) (some z) none H Q := by
  subst hz; exact sl_list_anyD h k
end Tw
namespace Tw
open PySem PySem.Spec PyProof.Rows L2
/-! ### repr(x) by an own __repr__; xs.reverse(), xs.clear() -/
section
variable {X : Cx} {n : Nat} {C : Addr}
structure Or' (P : Program) (w : World) (K : PySem.W.Frag) (mg : Str → Option Value) (base : Heap) (k : Nat) (C : Addr) (ps : List Str) (sp : Sp) : Prop where
  ex : ∃ f fd, PySem.W.findIn K (.ref C) "__repr__" = some (some (.ref f)) ∧ PySem.W.isFn K (.ref f) = true ∧ Binds K fd ps [] ∧ FnOk P w K mg base CX0 k f fd ps sp
end
end Tw
namespace Tw
open PySem PySem.Spec PyProof.Rows L2
/-! ### super().__init__(x) in an own exception's __init__ -/
/-- a method of the class at C whose body reads __class__, as it stands behind the top -/
structure FunC (P : Program) (K : PySem.W.Frag) (mg : Str → Option Value) (x qual : Str) (st : Stmt) (f C cc cda : Addr) (fd : FuncData) (i : String) : Prop where
  ex : ∃ (oc : Value) (od : Option Addr) (kV doc pm : Value) (an : Option Addr) (ct : Value) (osl : Array (Option Value)),
    fd = PySem.W.fnX x qual (defArgs st) (defBody st) (defScope st) [("__class__", cc)] .none kV doc pm an (.ref cda) ct ∧ K.lookup f = some ⟨oc, od, .func fd, osl⟩
  cd : PySem.W.codeIn K (.ref cda) qual = true
  cell : ∃ (cl : Value) (cld : Option Addr) (csl : Array (Option Value)), K.lookup cc = some ⟨cl, cld, .cell (some (.ref C)), csl⟩
  co : ∃ (ccl : Value) (cdd : Option Addr) (vs : Array Value) (ccs : Array (Option Value)) (file : Str) (tf : Tok), K.lookup cda = some ⟨ccl, cdd, .fields vs, ccs⟩ ∧ vs[2]? = some (.str file tf) ∧ ((P.main.file : Str) == file) = true
  sup : PySem.W.ks_superIn K C C "__init__" = some (some (.builtin i))
  opq : PySem.W.nsIn K cStatics "thirdparty.any" = some none
  mgs : mg "super" = none
  top : (P.main.scope.names.lookup ("super" : Str)).isSome = false
  par : ∃ ar, ((defArgs st).posonlyargs ++ (defArgs st).args).head? = some ar ∧ ar.arg = ("self" : Str)
  scS : (defScope st).names.lookup ("super" : Str) = some .globalImplicit
  scC : (defScope st).names.lookup ("__class__" : Str) = some .free
  scL : (defScope st).names.lookup ("self" : Str) = some .local
abbrev nfOf (x qual : Str) (st : Stmt) (cc cda : Addr) : NdefX.NF := ⟨x, qual, defArgs st, defBody st, defScope st, [("__class__", cc)], cda⟩
section
variable {CX : CXT} {P : Program} {w : World} {K : PySem.W.Frag} {mg : Str → Option Value} {base : Heap} {N : List Str} {x qual : Str} {st : Stmt} {f C cc cda a : Addr} {fd : FuncData} {A : Around} {outer : List Env} {s0 s : Shared} {H0 H : Hp} {E : XK} {σ : L2.St} {e : Expr} {es : List Expr} {ta : TA} {p0 p1 p2 p3 p4 : Pos} {R : Flow → Shared → Prop}
theorem clsIn_oex (T : OexC K C) : ∃ cd bm, PySem.W.clsIn K C = some cd ∧ cd.mro = .ref C :: bm ∧ PySem.HandSPX.refsVE bm = true := by
  obtain ⟨nm, q, N, bs, bm, sn, sub, ab, col, dd, k0, k1, k2, k3, k5, hC, hbm⟩ := T.cls
  refine ⟨{ name := nm, bases := bs, mro := .ref C :: bm, ns := N, qualname := q, hasDict := true, slotNames := sn, subclasses := sub, abstract := ab, collection := col, hasDel := false }, bm, ?_, rfl, hbm⟩
  unfold PySem.W.clsIn; rw [hC] <;> rfl
theorem mroIn_oex (T : OexC K C) {b : Value} (h : b = .ref C ∨ ∃ X : String, b = .type X ∧ PySem.HandSPX.veTail.contains (.type X) = true) : PySem.W.mroIn K C b = some true := by
  obtain ⟨cd, bm, h1, h2, h3⟩ := clsIn_oex T
  unfold PySem.W.mroIn
  rw [h1, Option.bind_some, h2, if_neg (show ¬ (List.isEmpty (Value.ref C :: bm) = true) from Bool.false_ne_true)]
  rcases h with rfl | ⟨X, rfl, h⟩
  · simp
  · rw [List.contains_cons, PySem.HandSPX.refsVE_contains X bm h3, h, Bool.or_true]
theorem callWith_mw {M : Model} {A : Around} {E : Value → Shared → Prop} {s : Shared} {pos : Pos} {env : Env} {e : Expr} {rest : List Expr} {u x : Addr} {i : String} {Q : Value → Shared → Prop}
    (h : wpAny M A (spliced (backTo pos (starEach (e :: rest) env))) (fun vs s₁ => PySem.W.KxsAt i u x s₁.heap ∧ wpAny M A (call (.ref u) vs) Q E s₁) E s)
    (he : starEach (e :: rest) env = (false, eval e env) :: starEach rest env) (hplain : (backTo pos (starEach rest env)).any (·.1) = false) :
    wpAny M A (callWith pos (.ref u) [] (backTo pos (starEach (e :: rest) env)) []) Q E s := by
  rw [he] at h ⊢
  refine PySem.W.kxs_callWith (i := i) (x := x) (by show (false || (backTo pos (starEach rest env)).any (·.1)) = false; rw [hplain]; rfl) ?_
  exact PySem.Calls.evalArgs_plain h
theorem sup_stmt (FC : FunC P K mg x qual st f C cc cda fd "ValueError.__init__") (T : OexC K C) (hk : (defScope st).kind = .function) (hN : N[0]? = some ("self" : Str))
    (I : Inv (NdefX.ncx CX P w K mg base N (nfOf x qual st cc cda) f A outer s0 H0 E) [] σ H s) (hσ : σ[0]? = some (some (.ref a))) (hx : H a = some (exo a C none)) (ha : PA (NdefX.ncx CX P w K mg base N (nfOf x qual st cc cda) f A outer s0 H0 E) (e :: es) ta)
    (h : ta σ H fun vs H1 => vs.length ≤ 1000 ∧ H1 a = some (exo a C none) ∧ ∀ s', Inv (NdefX.ncx CX P w K mg base N (nfOf x qual st cc cda) f A outer s0 H0 E) [] σ H1 s' → R .next s')
    (hi : interactive (NdefX.ncx CX P w K mg base N (nfOf x qual st cc cda) f A outer s0 H0 E).env = false := by rfl)
    (hs : swapsWith (.Call (.Attribute (.Call (.Name "super" p0) [] [] p1) "__init__" p2) (e :: es) [] p3) none p4.line (NdefX.ncx CX P w K mg base N (nfOf x qual st cc cda) f A outer s0 H0 E).env = pure false := by rfl)
    {pl : Sem Bool} (hc : eval (.Call (.Attribute (.Call (.Name "super" p0) [] [] p1) "__init__" p2) (e :: es) [] p3) (NdefX.ncx CX P w K mg base N (nfOf x qual st cc cda) f A outer s0 H0 E).env = (do
      let ov ← attributeBase (.Call (.Name "super" p0) [] [] p1) "__init__" (NdefX.ncx CX P w K mg base N (nfOf x qual st cc cda) f A outer s0 H0 E).env (eval (.Call (.Name "super" p0) [] [] p1) (NdefX.ncx CX P w K mg base N (nfOf x qual st cc cda) f A outer s0 H0 E).env)
      standAt p2.atName
      let (fz, first) ← holding [ov] (getMethod ov "__init__" pl)
      callWith p3 fz first (backTo p3 (starEach (e :: es) (NdefX.ncx CX P w K mg base N (nfOf x qual st cc cda) f A outer s0 H0 E).env)) []) := by rfl)
    (he : starEach (e :: es) (NdefX.ncx CX P w K mg base N (nfOf x qual st cc cda) f A outer s0 H0 E).env = (false, eval e (NdefX.ncx CX P w K mg base N (nfOf x qual st cc cda) f A outer s0 H0 E).env) :: starEach es (NdefX.ncx CX P w K mg base N (nfOf x qual st cc cda) f A outer s0 H0 E).env := by rfl)
    (hpl : (backTo p3 (starEach es (NdefX.ncx CX P w K mg base N (nfOf x qual st cc cda) f A outer s0 H0 E).env)).any (·.1) = false := by rfl) :
    _root_.PySem.wpAt (model P w) (NdefX.ncx CX P w K mg base N (nfOf x qual st cc cda) f A outer s0 H0 E).A (.func (defBody st) (NdefX.ncx CX P w K mg base N (nfOf x qual st cc cda) f A outer s0 H0 E).env)
      (exec (.Expr (.Call (.Attribute (.Call (.Name "super" p0) [] [] p1) "__init__" p2) (e :: es) [] p3) p4) (NdefX.ncx CX P w K mg base N (nfOf x qual st cc cda) f A outer s0 H0 E).env) R (NdefX.ncx CX P w K mg base N (nfOf x qual st cc cda) f A outer s0 H0 E).xe s := by
  obtain ⟨oc, od, kV, doc, pm, an, ct, osl, rfl, lk⟩ := FC.ex
  obtain ⟨cl, cld, csl, hcell⟩ := FC.cell
  obtain ⟨ccl, cdd, vs, ccs, file, tf, hco, hvs, hfile⟩ := FC.co
  obtain ⟨ar, har, ear⟩ := FC.par
  obtain ⟨nm, q, N', bs, bm, sn, sub, ab, col, dd, k0, k1, k2, k3, k5, hC, hbm⟩ := id T.cls
  obtain ⟨cd, bm', hcl, hmro, hbm'⟩ := clsIn_oex T
  have KX : K.In s.heap := I.kIn
  obtain ⟨t1, ho⟩ := exo_at I.hok hx
  obtain ⟨m, hns, hloc⟩ := I.loc
  obtain ⟨u, ru, hlook⟩ := hloc 0 "self" (.ref a) hN hσ (.inl FC.scL)
  obtain rfl : u = Value.ref a := ru
  have hm : m "self" = some (.ref a) := by
    rcases hlook with ⟨_, z⟩ | ⟨z, _⟩
    · exact z
    · rcases z with z | z <;> exact absurd (FC.scL.symm.trans z) (by simp)
  obtain ⟨mb, hb1, hb2⟩ := I.ok.mod.blt
  refine ks_wpAt_Expr_any (ks_wpAt_MethodCall (pl := pl) ?_ hc) hi hs
  refine ks_wpAt_super_base FC.scS FC.scC (by decide) rfl (KX _ _ lk) rfl har rfl (KX _ _ hco) rfl hvs hfile FC.top ?_
  refine PySem.W.ks_loadName_global hk FC.scS (PySem.Calls.loadGlobal_builtin (env := (NdefX.ncx CX P w K mg base N (nfOf x qual st cc cda) f A outer s0 H0 E).env) (I.ok.mod.glob.keeps I.bk) FC.mgs (hb1.keeps I.bk) ((hb2 _ (by decide)).trans (by decide +kernel : bootBuiltins "super" = some (.type "super"))) ⟨rfl, ?_⟩)
  refine wpAny_loadName_free hk FC.scC (c := cc) rfl ⟨_, KX _ _ hcell, rfl⟩ ?_
  refine wpAny_loadName_local hk (by rw [ear]; exact FC.scL) hns (by rw [ear]; exact hm) ?_
  obtain ⟨hp, g, d, t, os⟩ := s
  refine ks_wpAny_isType_cls (KX _ _ hC) rfl ⟨rfl, ?_⟩
  refine ks_wpAny_call_super (KX _ _ hC) rfl ho rfl (fun c z => nomatch z) (PySem.W.looks_mroIn KX (mroIn_oex T (.inl rfl))) (fun h' so k => ?_)
  have I1 : Inv (NdefX.ncx CX P w K mg base N (nfOf x qual st cc cda) f A outer s0 H0 E) [] σ H ⟨h', g, d, t, os⟩ := I.kept (t' := t) k
  have KX1 : K.In h' := I1.kIn
  have I' : PySem.W.InstAt h' a { cls := .ref C, dict := none, data := .fields #[.ref t1, .none, .none, .none, .bool false, .none] } C none := ⟨k _ _ ho, rfl, rfl, trivial⟩
  have hsup : PySem.W.alongIn K "__init__" ((cd.mro.dropWhile (· != .ref C)).drop 1) = some (some (.builtin "ValueError.__init__")) := by
    have z := FC.sup
    unfold PySem.W.ks_superIn at z
    rw [hcl] at z
    exact z
  refine PySem.W.kxs_getMethod PySem.W.kxs_ValueError so (PySem.W.looks_opaque KX1 FC.opq) (l₀ := cd.mro) (fun A Q E s k q => wpAny_bind ((PySem.W.looks_clsIn KX1 hcl) A _ E s k (wpAny_pure q))) rfl KX1 hsup
    (I'.type.andThen (PySem.W.looks_subIn KX1 (show PySem.W.subIn K (.ref C) (.type "ValueError") = some true from mroIn_oex T (.inr ⟨_, rfl, by decide +kernel⟩)))) (PySem.W.ks_ne KX1 I' hcl) (by decide) ?_
  have I2 : Inv (NdefX.ncx CX P w K mg base N (nfOf x qual st cc cda) f A outer s0 H0 E) [(h'.objs.size, PySem.W.kxs_mw "ValueError.__init__" a)] σ H ⟨h'.push (PySem.W.kxs_mw "ValueError.__init__" a), g, d, t + 1, os⟩ :=
    ClX.pin_new I1 (fun _ _ z => Heap.get?_push_of_some _ z) (Nat.le_refl _) (Heap.get?_push_size h' rfl) (fun v z => nomatch z)
  show wpAny _ _ (callWith p3 (.ref h'.objs.size) [] (backTo p3 (starEach (e :: es) (NdefX.ncx CX P w K mg base N (nfOf x qual st cc cda) f A outer s0 H0 E).env)) []) _ _ _
  refine callWith_mw (i := "ValueError.__init__") (x := a) (thn (ha.run p3 _ _ σ H _ I2 h) fun us s1 ⟨vs', H1, I3, r1, hz, hx1, q⟩ => ⟨ClX.pin_at I3, ?_⟩) he hpl
  obtain ⟨t3, ho3⟩ := exo_at I3.hok hx1
  have hu := ClX.pin_at I3
  have hlen : us.length ≤ sizeLine := by
    rw [← Paired.length r1, sizeLine_eq]
    omega
  have KX3 : K.In s1.heap := I3.kIn
  obtain ⟨hp1, g1, d1, tk1, os1⟩ := s1
  refine wpAny_call (codeAny_of_tree ?_)
  show wpAny _ _ (callAny (.ref _) ⟨us, []⟩) _ _ _
  simp only [callAny]
  refine wpAny_bind (wpAny_load hu ?_)
  simp only [PySem.W.kxs_mw, show (Value.type "method-wrapper" == Value.type "method" || Value.type "method-wrapper" == Value.type "builtin_function_or_method" || Value.type "method-wrapper" == Value.type "method-wrapper") = true by decide, if_true]
  refine PySem.W.KFB.if_so (by decide) ?_
  refine wpAny_bind (PySem.W.check_bound_init F.excBase_ValueError.toExcCallFacts (KX3 _ _ hC) ho3 rfl ?_)
  refine wpAny_bind (wpAny_pure (wpAny_pure ?_))
  refine ⟨plainId_quiet F.excBase_ValueError.init.plain _, codeAny_builtin F.excBase_ValueError.initEntry ?_⟩
  refine PySem.W.exc_init_tree (cls := .ref C) (t0 := t3) (dv := none) (c2 := .none) (c3 := .none) (b4 := .bool false) ho3 hlen fun h2 k2 e2 t2 => ?_
  have J := (ClX.unpin I3).write (t' := tk1) (x := a) (e := a) (o := exo a C none) (by rw [hx1]; exact True.intro) (.inl rfl) k2 ⟨_, e2⟩ (exo_ok e2)
  have eu : upd H1 a (exo a C none) = H1 := by
    funext b
    by_cases hb : b = a
    · rw [hb, upd_same, hx1]
    · rw [upd_ne hb]
  rw [eu] at J
  exact q _ J
end
end Tw
namespace Tw
open PySem PySem.Spec PyProof.Rows L2
/-! ### the promise of an __init__ that begins with super().__init__(..) -/
theorem nm_ncx {CX : CXT} {P : Program} {w : World} {K : PySem.W.Frag} {mg : Str → Option Value} {base : Heap} {j : Nat} {N : List Str} {NS : List (Str × Nat)} {G : List Str} {F : NdefX.NF} {f : Addr} {A : Around} {outer : List Env} {s : Shared} {H : Hp} {E : XK}
    (h : nmB N NS G F.scope = true) (hc : ∀ y ∈ F.scope.names, y.2 ≠ .cell) (hr : Room j (A.deeper (NdefX.envF F f s.heap.objs.size))) : Nm P w K mg base j (NdefX.ncx CX P w K mg base N F f A outer s H E) NS NS G := by
  unfold nmB at h
  simp only [Bool.and_eq_true, Bool.or_eq_true, Bool.not_eq_true', decide_eq_true_eq, List.all_eq_true] at h
  obtain ⟨⟨h1, h2⟩, h3⟩ := h
  have loc : ∀ x i, (x, i) ∈ NS → F.scope.names.lookup x = some .local := fun x i hm => by
    obtain ⟨⟨⟨a, b⟩, c⟩, d⟩ := h2 (x, i) hm
    rcases b with b | b
    · exact b
    · exact absurd rfl (hc _ (PySem.mem_of_lookup b))
  refine ⟨rfl, rfl, rfl, rfl, rfl, hr, rfl, h1, fun x i hm => ?_, fun x i hm => ?_, fun x hm => ?_⟩
  · obtain ⟨⟨⟨a, b⟩, c⟩, d⟩ := h2 (x, i) hm
    exact ⟨a, .inl (loc x i hm), c, d⟩
  · obtain ⟨⟨⟨a, b⟩, c⟩, d⟩ := h2 (x, i) hm
    exact ⟨a, .inl (loc x i hm), .inr (loc x i hm)⟩
  · obtain ⟨⟨a, b⟩, c⟩ := h3 x hm
    exact ⟨a, b, c⟩
theorem lookup_one {c : Addr} {y z : Str} : ([(z, c)] : List (Str × Addr)).lookup y = if y = z then some c else none := by
  by_cases h : y = z
  · subst h
    simp [List.lookup]
  · have e : (y == z) = false := by simpa using h
    rw [if_neg h]
    simp [List.lookup, e]
/-- what the written call of super() looks like -/
structure SupSyn (env : Env) (e : Expr) (es : List Expr) (p0 p1 p2 p3 p4 : Pos) (pl : Sem Bool) : Prop where
  hi : interactive env = false
  hs : swapsWith (.Call (.Attribute (.Call (.Name "super" p0) [] [] p1) "__init__" p2) (e :: es) [] p3) none p4.line env = pure false
  hc : eval (.Call (.Attribute (.Call (.Name "super" p0) [] [] p1) "__init__" p2) (e :: es) [] p3) env = (do
      let ov ← attributeBase (.Call (.Name "super" p0) [] [] p1) "__init__" env (eval (.Call (.Name "super" p0) [] [] p1) env)
      standAt p2.atName
      let (fz, first) ← holding [ov] (getMethod ov "__init__" pl)
      callWith p3 fz first (backTo p3 (starEach (e :: es) env)) [])
  he : starEach (e :: es) env = (false, eval e env) :: starEach es env
  hpl : (backTo p3 (starEach es env)).any (·.1) = false
section
variable {CX : CXT} {P : Program} {w : World} {K : PySem.W.Frag} {mg : Str → Option Value} {base : Heap} {N ps : List Str} {x qual : Str} {st : Stmt} {f C cc cda : Addr} {fd : FuncData} {e : Expr} {es : List Expr} {p0 p1 p2 p3 p4 : Pos} {rest : List Stmt} {k : Nat} {sp : Sp}
theorem funC_ok (FC : FunC P K mg x qual st f C cc cda fd "ValueError.__init__") (T : OexC K C) (S : NdefX.NScope N ps ["__class__"] (defScope st)) (hN : N[0]? = some ("self" : Str)) (len : ∀ vs H Q E, sp vs H Q E → vs.length = ps.length)
    (hb0 : defBody st = .Expr (.Call (.Attribute (.Call (.Name "super" p0) [] [] p1) "__init__" p2) (e :: es) [] p3) p4 :: rest)
    (hbody : ∀ (A : Around) (outer : List Env) (s : Shared) (H : Hp) (vs : List V) (Q : VK) (E : XK), Room k (A.deeper (NdefX.envF (nfOf x qual st cc cda) f s.heap.objs.size)) → sp vs H Q E →
      ∃ (a : Addr) (ta : TA) (t : TS) (pl : Sem Bool), vs[0]? = some (.ref a) ∧ H a = some (exo a C none) ∧ SupSyn (NdefX.ncx CX P w K mg base N (nfOf x qual st cc cda) f A outer s H E).env e es p0 p1 p2 p3 p4 pl ∧
        PA (NdefX.ncx CX P w K mg base N (nfOf x qual st cc cda) f A outer s H E) (e :: es) ta ∧ PSs (NdefX.ncx CX P w K mg base N (nfOf x qual st cc cda) f A outer s H E) rest t ∧
        ∀ Pc : Hp → Prop, (∀ H1, t { nx := fun _ H' => Q .non H', rt := Q } (NdefX.startF N vs [none]) H1 → Pc H1) → ta (NdefX.startF N vs [none]) H fun us H1 => us.length ≤ 1000 ∧ H1 a = some (exo a C none) ∧ Pc H1) :
    FnOk P w K mg base CX (k + 1) f fd ps sp := by
  refine ⟨len, fun A outer s H args us vs Q E hr e0 hb r hsp => ?_⟩
  have hl := len _ _ _ _ hsp
  have KX : K.In s.heap := e0.mod.kin.keeps fun b o e => (e0.bs b o e).1
  have lim : s.heap.NoLimit := e0.mod.nolimit.keeps fun b o e => (e0.bs b o e).1
  obtain ⟨oc, od, kV, doc, pm, an, ct, osl, efd, lk⟩ := FC.ex
  obtain ⟨cl, cld, csl, hcell⟩ := FC.cell
  subst efd
  have hcc : H cc = none ∧ ∃ v, s.heap.IsCell cc v := ⟨(e0.bs cc _ (e0.mod.kin _ _ hcell)).2, _, _, KX _ _ hcell, rfl⟩
  have only : ∀ y c, ([("__class__", cc)] : List (Str × Addr)).lookup y = some c → y = ("__class__" : Str) ∧ c = cc := fun y c z => by
    rw [lookup_one] at z
    split at z
    · rename_i q
      exact ⟨q, (Option.some.inj z).symm⟩
    · cases z
  have C' : NdefX.CellsAt [("__class__", cc)] ["__class__"] [none] s.heap H := ⟨rfl, fun y c z => by
      obtain ⟨rfl, rfl⟩ := only y c z
      exact hcc, fun y z c h1 h2 => by rw [(only y c h1).1, (only z c h2).1], fun i y hi => by
      match i, hi with
      | 0, hi =>
        obtain rfl := Option.some.inj hi
        exact ⟨cc, by rw [lookup_one, if_pos rfl], fun v hv => by cases hv⟩
      | i + 1, hi => exact absurd hi (by simp)⟩
  refine codeAny_call_function hr.depth (KX _ _ lk) rfl S.co S.gen rfl (PySem.W.codeRec_of KX FC.cd) (hb _ _ _ _ ?_)
  refine wpAny_newFunctionEnv S.nocell (fun ⟨n, _⟩ hy => S.par n (List.of_mem_zip hy).1) (fun h₁ hns hsb => ⟨lim.fresh _ hsb, ?_⟩) S.kind
  show codeAny _ _ (.func (defBody st) (NdefX.envF (nfOf x qual st cc cda) f s.heap.objs.size)) _ _
  refine ks_codeAny_funcAt ?_
  have kp : ∀ b o, s.heap.get? b = some o → h₁.get? b = some o := fun b o e => hsb.extBut b o (Nat.ne_of_lt (Heap.lt_size e)) (Heap.get?_push_of_some _ e)
  obtain ⟨a, ta, t, pl, hv0, hx, Y, hpa, hps, hq⟩ := hbody A outer s H vs Q E (hr.deeper _) hsp
  have I : Inv (NdefX.ncx CX P w K mg base N (nfOf x qual st cc cda) f A outer s H E) [] (NdefX.startF N vs [none]) H { s with heap := h₁, toks := s.toks + (ps.zip us).length } := NdefX.inv_startN S hr.hd e0 hl r C' hns kp
  have fin : ∀ {s' : Shared} {σ' : L2.St} {H' : Hp} {v : V} {u : Value}, Inv (NdefX.ncx CX P w K mg base N (nfOf x qual st cc cda) f A outer s H E) [] σ' H' s' → L2.RelV v u → Q v H' → CE outer P w H s Q u s' :=
    fun {s' σ' H' v u} J rv q => ⟨v, H', J.os, J.bare, J.base, J.hok, rv, q⟩
  have hσ : (NdefX.startF N vs [none])[0]? = some (some (.ref a)) := by
    unfold NdefX.startF
    rw [List.getElem?_append_left (by rw [List.length_map]; exact (List.getElem?_eq_some_iff.mp hv0).1), List.getElem?_map, hv0]
    rfl
  have e1 : execs (defBody st) (NdefX.envF (nfOf x qual st cc cda) f s.heap.objs.size) = execs (.Expr (.Call (.Attribute (.Call (.Name "super" p0) [] [] p1) "__init__" p2) (e :: es) [] p3) p4 :: rest) (NdefX.envF (nfOf x qual st cc cda) f s.heap.objs.size) := congrArg (fun b => execs b _) hb0
  rw [e1]
  refine ks_wpAt_execs_cons (sup_stmt FC T S.kind hN I hσ hx hpa (hq (fun H1 => ∀ s', Inv (NdefX.ncx CX P w K mg base N (nfOf x qual st cc cda) f A outer s H E) [] (NdefX.startF N vs [none]) H1 s' → _) fun H1 ht s' J => ?_) Y.hi Y.hs Y.hc Y.he Y.hpl)
  refine wpAt_of_wpAny ?_
  refine wpAny_mono (hps.run [] _ (NdefX.startF N vs [none]) H1 _ J ht) (fun fl s' hs => ?_) fun e s' hs => hs
  cases fl with
  | ret u =>
    obtain ⟨v, σ', H', J, rv, q⟩ := hs
    exact fin J rv q
  | next =>
    obtain ⟨σ', H', J, q⟩ := hs
    exact fin (v := V.non) (u := Value.none) J rfl q
  | brk =>
    obtain ⟨_, _, _, q⟩ := hs
    exact False.elim q
  | cont =>
    obtain ⟨_, _, _, q⟩ := hs
    exact False.elim q
end
end Tw
namespace Tw
open PySem PySem.Spec PyProof.Rows L2
/-! ### rounds as mathematics: how often each state stands at a dial during one round of the dials below -/
def sm (f : Nat → Int) : Nat → Int
  | 0 => 0
  | n + 1 => sm f n + f n
theorem sm_ext {f g : Nat → Int} : ∀ {n : Nat}, (∀ i, i < n → f i = g i) → sm f n = sm g n
  | 0, _ => rfl
  | n + 1, h => by rw [sm, sm, sm_ext fun i hi => h i (Nat.lt_succ_of_lt hi), h n (Nat.lt_succ_self n)]
theorem sm_split (f : Nat → Int) (a : Nat) : ∀ b, sm f (a + b) = sm f a + sm (fun i => f (a + i)) b
  | 0 => by rw [Nat.add_zero, sm, Int.add_zero]
  | b + 1 => by rw [← Nat.add_assoc, sm, sm, sm_split f a b, Int.add_assoc]
theorem sm_plus (f g : Nat → Int) : ∀ n, sm (fun i => f i + g i) n = sm f n + sm g n
  | 0 => rfl
  | n + 1 => by rw [sm, sm, sm, sm_plus f g n]; omega
theorem sm_zero : ∀ n, sm (fun _ => 0) n = 0
  | 0 => rfl
  | n + 1 => by rw [sm, sm_zero n]; rfl
theorem sm_swap (F : Nat → Nat → Int) (m : Nat) : ∀ n, sm (fun i => sm (fun j => F i j) m) n = sm (fun j => sm (fun i => F i j) n) m
  | 0 => by
    rw [sm, ← sm_zero m]
    exact sm_ext fun j _ => rfl
  | n + 1 => by
    rw [sm, sm_swap F m n, ← sm_plus]
    exact sm_ext fun j _ => rfl
theorem sm_grid (f : Nat → Int) (L : Nat) : ∀ m, sm f (m * L) = sm (fun j => sm (fun i => f (j * L + i)) L) m
  | 0 => by rw [Nat.zero_mul]; rfl
  | m + 1 => by rw [Nat.succ_mul, sm_split, sm_grid f L m, sm]
theorem sm_list (f : Nat → Int) : ∀ n, sm f n = ((List.range n).map f).sum
  | 0 => rfl
  | n + 1 => by rw [sm, sm_list f n, List.range_succ, List.map_append, List.sum_append]; simp
theorem perm_sum {l l' : List Int} (h : l.Perm l') : l.sum = l'.sum := by
  induction h with
  | nil => rfl
  | cons x _ ih => rw [List.sum_cons, List.sum_cons, ih]
  | swap x y l => rw [List.sum_cons, List.sum_cons, List.sum_cons, List.sum_cons]; omega
  | trans _ _ a b => rw [a, b]
/-! the rests of t, 2 t, 3 t .. modulo a prime -/
theorem res2 : ∀ t, t < 2 → ∀ b, b < 2 → t ≠ 0 → ((List.range 2).map fun j => (j * t + b) % 2).isPerm (List.range 2) = true := by decide +kernel
theorem res3 : ∀ t, t < 3 → ∀ b, b < 3 → t ≠ 0 → ((List.range 3).map fun j => (j * t + b) % 3).isPerm (List.range 3) = true := by decide +kernel
theorem res5 : ∀ t, t < 5 → ∀ b, b < 5 → t ≠ 0 → ((List.range 5).map fun j => (j * t + b) % 5).isPerm (List.range 5) = true := by decide +kernel
theorem res7 : ∀ t, t < 7 → ∀ b, b < 7 → t ≠ 0 → ((List.range 7).map fun j => (j * t + b) % 7).isPerm (List.range 7) = true := by decide +kernel
theorem res_perm {p : Int} (hP : IsP p) {t b : Nat} (ht : (t : Int) < p) (hb : (b : Int) < p) (h0 : t ≠ 0) : ((List.range p.toNat).map fun j => (j * t + b) % p.toNat).Perm (List.range p.toNat) := by
  rcases hP with rfl | rfl | rfl | rfl
  · exact List.isPerm_iff.mp (res2 t (by omega) b (by omega) h0)
  · exact List.isPerm_iff.mp (res3 t (by omega) b (by omega) h0)
  · exact List.isPerm_iff.mp (res5 t (by omega) b (by omega) h0)
  · exact List.isPerm_iff.mp (res7 t (by omega) b (by omega) h0)
theorem res_sum {p : Int} (hP : IsP p) (T a : Int) (h0 : T % p ≠ 0) (g : Int → Int) : sm (fun j => g (((j : Int) * T + a) % p)) p.toNat = sm (fun x => g (x : Int)) p.toNat := by
  have p2 := hP.two
  have hp : ((p.toNat : Nat) : Int) = p := Int.toNat_of_nonneg (by omega)
  have t0 : 0 ≤ T % p := Int.emod_nonneg _ (by omega)
  have t1 : T % p < p := Int.emod_lt_of_pos _ (by omega)
  have a0 : 0 ≤ a % p := Int.emod_nonneg _ (by omega)
  have a1 : a % p < p := Int.emod_lt_of_pos _ (by omega)
  have q := res_perm hP (t := (T % p).toNat) (b := (a % p).toNat) (by omega) (by omega) (by omega)
  have e : ∀ j : Nat, ((j : Int) * T + a) % p = (((j * (T % p).toNat + (a % p).toNat) % p.toNat : Nat) : Int) := fun j => by
    rw [Int.natCast_emod, hp, Int.natCast_add, Int.natCast_mul, Int.toNat_of_nonneg t0, Int.toNat_of_nonneg a0]
    conv => lhs; rw [Int.add_emod, Int.mul_emod]
    conv => rhs; rw [Int.add_emod, Int.mul_emod, Int.emod_emod, Int.emod_emod]
  rw [sm_list, sm_list]
  have z := perm_sum (List.Perm.map (fun x : Nat => g (x : Int)) q)
  rw [List.map_map] at z
  rw [← z]
  congr 1
  refine List.map_congr_left fun j _ => ?_
  rw [e j]
  rfl
/-! the settings that come about from the setting of zeros -/
section
variable (p : Int) (M : Mach) (st : Int)
def itB (n : Nat) : Nat → List Int
  | 0 => List.replicate n 0
  | i + 1 => behM p M st (itB n i)
def sumT (n i : Nat) : Int := sm (fun k => turnM M (runM M st (itB p M st n k))) i
/-- L is how long the round of the setting of n zeros is -/
structure Per (n L : Nat) : Prop where
  pos : 0 < L
  back : itB p M st n L = List.replicate n 0
  fst : ∀ i, 0 < i → i < L → itB p M st n i ≠ List.replicate n 0
end
section
variable {p : Int} {M : Mach} {st : Int}
theorem behM_snoc (ds : List Int) (x : Int) : behM p M st (ds ++ [x]) = behM p M st ds ++ [(x + turnM M (runM M st ds)) % p] := by
  unfold behM
  rw [wayM_snoc, List.zipWith_append (by rw [wayM_len])]
  rfl
theorem itB_len (n : Nat) : ∀ i, (itB p M st n i).length = n
  | 0 => by rw [itB, List.length_replicate]
  | i + 1 => by rw [itB, behM_len, itB_len n i]
theorem itB_figs (hP : IsP p) (n : Nat) : ∀ i, ∀ d ∈ itB p M st n i, 0 ≤ d ∧ d < p
  | 0, d, hd => by
    have p2 := hP.two
    rw [itB] at hd
    rw [List.eq_of_mem_replicate hd]; omega
  | i + 1, d, hd => by rw [itB] at hd; exact behM_in hP _ _ d hd
theorem itB_up (hP : IsP p) (n : Nat) : ∀ i, itB p M st (n + 1) i = itB p M st n i ++ [sumT p M st n i % p]
  | 0 => by
    show List.replicate (n + 1) 0 = List.replicate n 0 ++ [(0 : Int) % p]
    rw [Int.zero_emod, List.replicate_succ']
  | i + 1 => by
    show behM p M st (itB p M st (n + 1) i) = behM p M st (itB p M st n i) ++ [(sumT p M st n i + turnM M (runM M st (itB p M st n i))) % p]
    rw [itB_up hP n i, behM_snoc, md_add hP]
theorem per_zero : Per p M st 0 1 := ⟨by decide, by
  have := itB_len (p := p) (M := M) (st := st) 0 1
  rw [List.length_eq_zero_iff.mp this]; rfl, fun i h1 h2 => by omega⟩
theorem Per.add {n L : Nat} (h : Per p M st n L) : ∀ i, itB p M st n (L + i) = itB p M st n i
  | 0 => by rw [Nat.add_zero, h.back]; rfl
  | i + 1 => by
    show behM p M st (itB p M st n (L + i)) = behM p M st (itB p M st n i)
    rw [h.add i]
theorem Per.mul {n L : Nat} (h : Per p M st n L) (i : Nat) : ∀ j, itB p M st n (j * L + i) = itB p M st n i
  | 0 => by rw [Nat.zero_mul, Nat.zero_add]
  | j + 1 => by rw [Nat.succ_mul, Nat.add_comm (j * L) L, Nat.add_assoc, h.add, h.mul i j]
theorem Per.sum {n L : Nat} (h : Per p M st n L) (i : Nat) : ∀ j, sumT p M st n (j * L + i) = (j : Int) * sumT p M st n L + sumT p M st n i
  | 0 => by rw [Nat.zero_mul, Nat.zero_add]; show _ = 0 * _ + _; rw [Int.zero_mul, Int.zero_add]
  | j + 1 => by
    have z := h.sum i j
    have e : sumT p M st n (L + (j * L + i)) = sumT p M st n L + sumT p M st n (j * L + i) := by
      show sm _ (L + (j * L + i)) = sm _ L + sm _ (j * L + i)
      rw [sm_split]
      congr 1
      exact sm_ext fun k _ => by rw [h.add]
    rw [Nat.succ_mul, Nat.add_comm (j * L) L, Nat.add_assoc, e, z, Int.natCast_add, Int.add_mul]
    show _ = _ + (1 : Int) * _ + _
    rw [Int.one_mul]; omega
theorem no_mul {p : Int} (hP : IsP p) {T : Int} (hT : T % p ≠ 0) {j : Nat} (j0 : 0 < j) (j1 : (j : Int) < p) : ((j : Int) * T) % p ≠ 0 := by
  have p2 := hP.two
  rw [Int.mul_emod]
  have t0 : 0 ≤ T % p := Int.emod_nonneg _ (by omega)
  have t1 : T % p < p := Int.emod_lt_of_pos _ (by omega)
  generalize T % p = t at *
  have ej : (j : Int) % p = j := Int.emod_eq_of_lt (by omega) j1
  rw [ej]
  rcases hP with rfl | rfl | rfl | rfl
  · have : j = 1 := by omega
    subst this; omega
  · have : j = 1 ∨ j = 2 := by omega
    rcases this with rfl | rfl <;> omega
  · have : j = 1 ∨ j = 2 ∨ j = 3 ∨ j = 4 := by omega
    rcases this with rfl | rfl | rfl | rfl <;> omega
  · have : j = 1 ∨ j = 2 ∨ j = 3 ∨ j = 4 ∨ j = 5 ∨ j = 6 := by omega
    rcases this with rfl | rfl | rfl | rfl | rfl | rfl <;> omega
theorem zeros_up (n : Nat) : List.replicate (n + 1) (0 : Int) = List.replicate n 0 ++ [0] := List.replicate_succ'
theorem snoc_inj {a b : List Int} {x y : Int} (h : a ++ [x] = b ++ [y]) : a = b ∧ x = y := by
  have := List.append_inj' h rfl
  exact ⟨this.1, by simpa using this.2⟩
theorem Per.next (hP : IsP p) {n L : Nat} (h : Per p M st n L) (hT : sumT p M st n L % p ≠ 0) : Per p M st (n + 1) (p.toNat * L) := by
  have p2 := hP.two
  have hp : ((p.toNat : Nat) : Int) = p := Int.toNat_of_nonneg (by omega)
  refine ⟨Nat.mul_pos (by omega) h.pos, ?_, fun i h0 h1 => ?_⟩
  · have e := h.mul 0 p.toNat
    have s := h.sum 0 p.toNat
    rw [Nat.add_zero] at e s
    rw [itB_up hP, e, s, hp, zeros_up]
    show List.replicate n 0 ++ _ = _
    congr 2
    show (p * _ + 0) % p = 0
    rw [Int.add_zero, Int.mul_emod_right]
  · have hd : i = i / L * L + i % L := (Nat.div_add_mod' i L).symm
    have hl : i % L < L := Nat.mod_lt _ h.pos
    have hj : i / L < p.toNat := Nat.div_lt_of_lt_mul (by rw [Nat.mul_comm]; exact h1)
    generalize i / L = j at *
    generalize i % L = r at *
    subst hd
    rw [itB_up hP, h.mul, h.sum, zeros_up]
    intro z
    obtain ⟨z1, z2⟩ := snoc_inj z
    by_cases c : r = 0
    · subst c
      have : sumT p M st n 0 = 0 := rfl
      rw [this, Int.add_zero] at z2
      exact no_mul hP hT (by rcases Nat.eq_zero_or_pos j with q | q
                             · rw [q] at h0; omega
                             · exact q) (by omega) z2
    · exact h.fst r (by omega) hl z1
/-- the sum of a weight over the states in which the dial is reached during the round -/
def rdG (p : Int) (M : Mach) (st : Int) (n L : Nat) (g : Int → Int) : Int := sm (fun i => g (runM M st (itB p M st n i))) L
def nxG (p : Int) (M : Mach) (g : Int → Int) (q : Int) : Int := sm (fun x => g (goM M q (x : Int))) p.toNat
theorem rdG_next (hP : IsP p) {n L : Nat} (h : Per p M st n L) (hT : sumT p M st n L % p ≠ 0) (g : Int → Int) : rdG p M st (n + 1) (p.toNat * L) g = rdG p M st n L (nxG p M g) := by
  unfold rdG
  rw [sm_grid, sm_swap (fun j i => g (runM M st (itB p M st (n + 1) (j * L + i)))) L p.toNat]
  refine sm_ext fun i hi => ?_
  unfold nxG
  rw [← res_sum hP (sumT p M st n L) (sumT p M st n i) hT fun x => g (goM M (runM M st (itB p M st n i)) x)]
  refine sm_ext fun j hj => ?_
  rw [itB_up hP, runM_snoc, h.mul, h.sum]
theorem rdG_zero (g : Int → Int) : rdG p M st 0 1 g = g st := by
  show 0 + g (runM M st (List.replicate 0 0)) = g st
  rw [Int.zero_add]; rfl
end
end Tw
namespace Tw
open PySem PySem.Spec PyProof.Rows L2
/-! ### counts against visits -/
theorem sm_one (k : Nat) (a : Int) : ∀ n, k < n → sm (fun q => if q = k then a else 0) n = a
  | 0, h => by omega
  | n + 1, h => by
    rw [sm]
    by_cases c : n = k
    · subst c
      have e : sm (fun q => if q = n then a else 0) n = sm (fun _ => 0) n := sm_ext fun i hi => by
        show (if i = n then a else 0) = 0
        rw [if_neg (by omega)]
      rw [e, sm_zero, if_pos rfl, Int.zero_add]
    · rw [sm_one k a n (by omega), if_neg c, Int.add_zero]
theorem getD_set (l : List Int) (k : Nat) (v : Int) (hk : k < l.length) (q : Nat) : (l.set k v).getD q 0 = if q = k then v else l.getD q 0 := by
  rw [List.getD_eq_getElem?_getD, List.getElem?_set]
  by_cases c : q = k
  · subst c
    rw [if_pos rfl, if_pos rfl, if_pos hk]; rfl
  · rw [if_neg (fun e => c e.symm), if_neg c, List.getD_eq_getElem?_getD]
/-- the weighted sum of counts -/
def prC (l : List Int) (g : Int → Int) : Int := sm (fun q => l.getD q 0 * g (q : Int)) l.length
theorem prC_addA (l : List Int) (g : Int → Int) (s c : Int) (s0 : 0 ≤ s) (s1 : s < (l.length : Int)) : prC (addA l s c) g = prC l g + c * g s := by
  have hk : s.toNat < l.length := by omega
  have es : ((s.toNat : Nat) : Int) = s := Int.toNat_of_nonneg s0
  unfold prC
  rw [addA_len]
  have e : sm (fun q => (addA l s c).getD q 0 * g (q : Int)) l.length = sm (fun q => l.getD q 0 * g (q : Int) + if q = s.toNat then c * g s else 0) l.length := sm_ext fun q hq => by
    show (l.set s.toNat (l.getD s.toNat 0 + c)).getD q 0 * g (q : Int) = l.getD q 0 * g (q : Int) + _
    rw [getD_set l _ _ hk]
    by_cases d : q = s.toNat
    · subst d
      rw [if_pos rfl, if_pos rfl, es, Int.add_mul]
    · rw [if_neg d, if_neg d, Int.add_zero]
  rw [e, sm_plus, sm_one _ _ _ hk]
theorem prC_addR (g : Int → Int) (c : Int) (gs : List Int) : ∀ l : List Int, (∀ s ∈ gs, 0 ≤ s ∧ s < (l.length : Int)) → prC (addR l gs c) g = prC l g + c * (gs.map g).sum := by
  induction gs with
  | nil => intro l _; show prC l g = _ + c * 0; rw [Int.mul_zero, Int.add_zero]
  | cons s r ih =>
    intro l h
    show prC (addR (addA l s c) r c) g = _
    have hs := h s (List.mem_cons_self ..)
    rw [ih _ fun x hx => by rw [addA_len]; exact h x (List.mem_cons_of_mem _ hx), prC_addA l g s c hs.1 hs.2, List.map_cons, List.sum_cons, Int.mul_add]
    omega
theorem prC_zero (n : Nat) (g : Int → Int) : prC (List.replicate n 0) g = 0 := by
  refine Eq.trans (sm_ext (g := fun _ => 0) fun q hq => ?_) (sm_zero _)
  have e : (List.replicate n (0 : Int)).getD q 0 = 0 := by
    rw [List.getD_eq_getElem?_getD]
    cases h : (List.replicate n (0 : Int))[q]? with
    | none => rfl
    | some x => exact List.eq_of_mem_replicate (List.mem_of_getElem? h)
  rw [e, Int.zero_mul]
theorem sum_at (gs : List Int) (g : Int → Int) : (gs.map g).sum = sm (fun x => g (gs.getD x 0)) gs.length := by
  rw [sm_list]
  congr 1
  refine List.ext_getElem? fun i => ?_
  rw [List.getElem?_map, List.getElem?_map]
  by_cases h : i < gs.length
  · rw [List.getElem?_range h, List.getElem?_eq_getElem h]
    show some (g gs[i]) = some (g (gs.getD i 0))
    rw [List.getD_eq_getElem?_getD]
    show some _ = some (g ((gs[i]?).getD 0))
    rw [List.getElem?_eq_getElem h]; rfl
  · rw [List.getElem?_eq_none (by omega), List.getElem?_eq_none (by rw [List.length_range]; omega)]; rfl
section
variable {p : Int} {M : Mach}
theorem prC_sum (hO : OkM p M.length M) (cs : List Int) (g : Int → Int) : ∀ k, k ≤ M.length → prC (sumC M cs k) g = sm (fun q => cs.getD q 0 * nxG p M g (q : Int)) k
  | 0, _ => prC_zero _ g
  | k + 1, h => by
    have hk : k < M.length := h
    have ek : M.getD k (0, []) = M[k] := by rw [List.getD_eq_getElem?_getD, List.getElem?_eq_getElem hk]; rfl
    have hm := List.getElem_mem hk
    rw [sumC, sm, prC_addR g _ _ _ (fun s hs => by
      rw [ek] at hs
      rw [sumC_len]
      exact hO.goal _ hm s hs), prC_sum hO cs g k (by omega), sum_at]
    congr 2
    unfold nxG
    have hl := hO.many _ hm
    rw [ek]
    have e : M[k].2.length = p.toNat := by omega
    rw [e]
    refine sm_ext fun x _ => ?_
    show _ = g ((M.getD (k : Int).toNat (0, [])).2.getD (x : Int).toNat 0)
    rw [Int.toNat_natCast, Int.toNat_natCast, ek]
theorem sm_mod {f g : Nat → Int} (p : Int) (h : ∀ i, f i % p = g i % p) : ∀ n, sm f n % p = sm g n % p
  | 0 => rfl
  | n + 1 => by rw [sm, sm, Int.add_emod, sm_mod p h n, h n, ← Int.add_emod]
theorem prC_mod (p : Int) (l : List Int) (g : Int → Int) : prC (l.map (· % p)) g % p = prC l g % p := by
  unfold prC
  rw [List.length_map]
  refine sm_mod p (fun q => ?_) _
  rw [getD_md, Int.mul_emod, Int.emod_emod, ← Int.mul_emod]
theorem prC_next (hO : OkM p M.length M) {cs : List Int} (hc : CsOk p M cs) (g : Int → Int) : prC (nextC p M cs) g % p = prC cs (nxG p M g) % p := by
  unfold nextC
  rw [prC_mod, prC_sum hO cs g _ (Nat.le_refl _)]
  unfold prC
  rw [hc.len]
theorem prC_first {st : Int} (z0 : 0 ≤ st) (z1 : st < (M.length : Int)) (g : Int → Int) : prC (firstC M st) g = g st := by
  have e : firstC M st = addA (List.replicate M.length 0) st 1 := by
    unfold firstC addA
    refine List.ext_getElem? fun i => ?_
    rw [List.getElem?_map, List.getElem?_set]
    by_cases h : i < M.length
    · rw [List.getElem?_range h]
      by_cases c : st.toNat = i
      · rw [if_pos c, if_pos (by rw [List.length_replicate]; omega)]
        show some (if (i : Int) = st then (1 : Int) else 0) = _
        rw [if_pos (by omega)]
        have q : (List.replicate M.length (0 : Int)).getD st.toNat 0 = 0 := by
          rw [List.getD_eq_getElem?_getD, List.getElem?_replicate, if_pos (by omega)]; rfl
        rw [q]; rfl
      · rw [if_neg c, List.getElem?_replicate, if_pos h]
        show some (if (i : Int) = st then (1 : Int) else 0) = _
        rw [if_neg (by omega)]
    · have n1 : (List.range M.length)[i]? = none := List.getElem?_eq_none (by rw [List.length_range]; omega)
      have n2 : (List.replicate M.length (0 : Int))[i]? = none := List.getElem?_eq_none (by rw [List.length_replicate]; omega)
      rw [n1, n2, if_neg (show ¬ st.toNat = i by omega)]; rfl
  rw [e, prC_addA _ g st 1 z0 (by rw [List.length_replicate]; exact z1), prC_zero, Int.one_mul, Int.zero_add]
variable {st : Int}
/-- n dials: how long the round is, and that the counts weigh as the visits -/
structure Rnd (p : Int) (M : Mach) (st : Int) (n L : Nat) : Prop where
  per : Per p M st n L
  wt : ∀ g, rdG p M st n L g % p = prC (itC p M st n) g % p
theorem Rnd.zero (z0 : 0 ≤ st) (z1 : st < (M.length : Int)) : Rnd p M st 0 1 := ⟨per_zero, fun g => by
  rw [rdG_zero]
  show _ = prC (firstC M st) g % p
  rw [prC_first z0 z1]⟩
theorem tot_wt {cs : List Int} (hc : CsOk p M cs) : totC p M cs = prC cs (turnM M) % p := by
  unfold totC prodC prC
  rw [hc.len, sm_list]
  congr 2
theorem Rnd.tot (hP : IsP p) {n L : Nat} (h : Rnd p M st n L) : sumT p M st n L % p = totN p M st n := by
  unfold totN
  rw [tot_wt (itC_ok hP M st n), ← h.wt]
  rfl
theorem Rnd.next (hP : IsP p) (hO : OkM p M.length M) {n L : Nat} (h : Rnd p M st n L) (hT : sumT p M st n L % p ≠ 0) : Rnd p M st (n + 1) (p.toNat * L) := ⟨h.per.next hP hT, fun g => by
  rw [rdG_next hP h.per hT, h.wt]
  show _ = prC (nextC p M (itC p M st n)) g % p
  rw [prC_next hO (itC_ok hP M st n)]⟩
/-- the visits as the law counts them -/
def visF (p : Int) (M : Mach) (st : Int) (n : Nat) : Nat → List Int
  | 0 => List.replicate M.length 0
  | i + 1 => addA (visF p M st n i) (runM M st (itB p M st n i)) 1
theorem visF_len (n : Nat) : ∀ i, (visF p M st n i).length = M.length
  | 0 => List.length_replicate
  | i + 1 => by rw [visF, addA_len, visF_len n i]
theorem here_in (hP : IsP p) (hO : OkM p M.length M) (z0 : 0 ≤ st) (z1 : st < (M.length : Int)) (n i : Nat) : 0 ≤ runM M st (itB p M st n i) ∧ runM M st (itB p M st n i) < (M.length : Int) :=
  runM_in hO rfl _ z0 z1 (itB_figs hP n i)
theorem visF_wt (hP : IsP p) (hO : OkM p M.length M) (z0 : 0 ≤ st) (z1 : st < (M.length : Int)) (n : Nat) (g : Int → Int) : ∀ i, prC (visF p M st n i) g = sm (fun k => g (runM M st (itB p M st n k))) i
  | 0 => prC_zero _ g
  | i + 1 => by
    have q := here_in hP hO z0 z1 n i
    rw [visF, prC_addA _ g _ 1 q.1 (by rw [visF_len]; exact q.2), visF_wt hP hO z0 z1 n g i, sm, Int.one_mul]
theorem prC_ind (l : List Int) (r : Nat) (hr : r < l.length) : prC l (fun q => if q = (r : Int) then 1 else 0) = l.getD r 0 := by
  unfold prC
  rw [← sm_one r (l.getD r 0) l.length hr]
  refine sm_ext fun q _ => ?_
  by_cases c : q = r
  · subst c
    show l.getD q 0 * (if (q : Int) = (q : Int) then 1 else 0) = _
    rw [if_pos rfl, if_pos rfl, Int.mul_one]
  · show l.getD q 0 * (if (q : Int) = (r : Int) then 1 else 0) = _
    rw [if_neg (by omega), if_neg c, Int.mul_zero]
theorem Rnd.vis (hP : IsP p) (hO : OkM p M.length M) (z0 : 0 ≤ st) (z1 : st < (M.length : Int)) {n L : Nat} (h : Rnd p M st n L) : (visF p M st n L).map (· % p) = itC p M st n := by
  have hc := itC_ok hP M st n
  refine List.ext_getElem? fun r => ?_
  by_cases c : r < M.length
  · have e := h.wt fun q => if q = (r : Int) then 1 else 0
    have e2 := visF_wt hP hO z0 z1 n (fun q => if q = (r : Int) then 1 else 0) L
    rw [prC_ind _ r (by rw [visF_len]; exact c)] at e2
    unfold rdG at e
    rw [← e2, prC_ind _ r (by rw [hc.len]; exact c)] at e
    have h1 : r < (visF p M st n L).length := by rw [visF_len]; exact c
    have h2 : r < (itC p M st n).length := by rw [hc.len]; exact c
    rw [List.getElem?_map, List.getElem?_eq_getElem h1, List.getElem?_eq_getElem h2]
    rw [List.getD_eq_getElem?_getD, List.getD_eq_getElem?_getD, List.getElem?_eq_getElem h1, List.getElem?_eq_getElem h2] at e
    have v := hc.val _ (List.getElem_mem h2)
    show some ((visF p M st n L)[r] % p) = some _
    congr 1
    have e' : (visF p M st n L)[r] % p = (itC p M st n)[r] % p := e
    rw [e', Int.emod_eq_of_lt v.1 v.2]
  · rw [List.getElem?_eq_none (by rw [List.length_map, visF_len]; omega), List.getElem?_eq_none (by rw [hc.len]; omega)]
end
end Tw
namespace Tw
open PySem PySem.Spec PyProof.Rows L2
/-! ### a tuple any number of times: once is the tuple itself, no times is an empty one made anew -/
theorem mul_once (a : Addr) (its : Array Value) (n : Nat) (dd : Option Addr) (sl : Array (Option Value)) (u : Tok) (hi : its.isEmpty = false) :
    Meets (Builtin.«tuple.__mul__» ⟨[.ref a, .int 1 u], []⟩) (fun _ R s => s.heap.get? a = some { cls := .type "tuple", dict := dd, data := .seq its n, slots := sl } ∧ R (.ok (.ret (.ref a))) s) :=
  .of_wp fun prog w A R s h => by
    obtain ⟨hp, g, d, tk, os⟩ := s
    obtain ⟨hl, h⟩ := h
    have f1 := AutoSeq1.idx_int
    wp_walk using wpAny_loadPart' hl
    all_goals exact ⟨_, rfl, h⟩
theorem mul_none (a : Addr) (its : Array Value) (n : Nat) (dd : Option Addr) (sl : Array (Option Value)) (u : Tok) (hi : its.isEmpty = false) :
    Meets (Builtin.«tuple.__mul__» ⟨[.ref a, .int 0 u], []⟩) (fun _ R s => s.heap.get? a = some { cls := .type "tuple", dict := dd, data := .seq its n, slots := sl } ∧ R (.ok (.ret (Value.ref s.heap.objs.size))) { s with heap := s.heap.push { cls := Value.type "tuple", data := Data.seq #[] }, toks := s.toks }) :=
  .of_wp fun prog w A R s h => by
    obtain ⟨hp, g, d, tk, os⟩ := s
    obtain ⟨hl, h⟩ := h
    have f1 := AutoSeq1.idx_int
    wp_walk using wpAny_loadPart' hl
    all_goals exact ⟨_, rfl, h⟩
def rRepN (K : PySem.W.Frag) : R2 := fun x y H Q => ∃ l k xs, x = .ref l ∧ y = .int k ∧ SqT K H l xs ∧ xs ≠ [] ∧ 0 ≤ k ∧ k ≤ 1000 ∧ xs.length ≤ 1000 ∧ (k = 1 → Q (.ref l) H) ∧ (k ≠ 1 → ∀ p, H p = none → Q (.ref p) (upd H p (.tup (List.replicate k.toNat xs).flatten)))
theorem op_repN {X : Cx} : OpR X (binaryOp .Mult) (rRepN X.K) := by
  intro pins s σ H x y v u Q I rx ry h
  obtain ⟨l, k, xs, ex, ey, hT, hne, k0, k1, hz, q1, q2⟩ := h
  rcases (by omega : 2 ≤ k ∨ k = 1 ∨ k = 0) with c | c | c
  · exact op_repT pins s σ H x y v u Q I rx ry ⟨l, k, xs, ex, ey, hT, hne, c, k1, hz, q2 (by omega)⟩
  all_goals
    subst ex ey c
    cases rx
    obtain ⟨t, rfl⟩ := ry
    obtain ⟨its, r, ⟨⟨cls, dd, data, sl⟩, ho, hc, n, hd⟩, hs⟩ := I.tuple hT
    dsimp only at hc hd
    subst hc hd
    have full : its.toArray.isEmpty = false := by
      match its, r.length with
      | [], e => exact absurd (List.eq_nil_of_length_eq_zero e) hne
      | _ :: _, _ => rfl
  · exact wpAny_binaryOp_repeat_ref (T := "tuple") (U := "int") (by decide) ⟨_, ho, rfl⟩ (fun s' => typeIs_int s' _ t) noFill_tuple_mul F.fills_int_mul F.slot_int_rmul repeat_tuple F.slot_int_index.lookup
      (call_meets F.slot_int_rmul (typeIs_int s _ t) F.entry_int_rmul (F.args_int_rmul_2 _ _) (int_rmul_tuple _ t l its.toArray n dd sl)
        ⟨ho, rfl, ⟨_, ho, rfl⟩, call_meets F.slot_tuple_mul ⟨_, ho, rfl⟩ F.entry_tuple_mul (F.args_tuple_mul_2 _ _) (mul_once l its.toArray n dd sl t full) ⟨ho, .ref l, H, I, rfl, q1 rfl⟩⟩)
  · refine wpAny_binaryOp_repeat_ref (T := "tuple") (U := "int") (by decide) ⟨_, ho, rfl⟩ (fun s' => typeIs_int s' _ t) noFill_tuple_mul F.fills_int_mul F.slot_int_rmul repeat_tuple F.slot_int_index.lookup
      (call_meets F.slot_int_rmul (typeIs_int s _ t) F.entry_int_rmul (F.args_int_rmul_2 _ _) (int_rmul_tuple _ t l its.toArray n dd sl)
        ⟨ho, rfl, ⟨_, ho, rfl⟩, call_meets F.slot_tuple_mul ⟨_, ho, rfl⟩ F.entry_tuple_mul (F.args_tuple_mul_2 _ _) (mul_none l its.toArray n dd sl t full) ⟨ho, ?_⟩⟩)
    have q := q2 (by decide) _ (I.hok.fresh (Nat.le_refl _))
    refine ⟨.ref s.heap.objs.size, _, I.laid (t' := s.toks) (o := .tup []) (fun b ob z => Heap.get?_push_of_some _ z) (Nat.le_refl _) ?_, rfl, q⟩
    exact ⟨Nat.zero_le _, [], .nil, IsTup.new _ _⟩
theorem ints_rep (d : Int) (k : Nat) : (List.replicate k [V.int d]).flatten = (List.replicate k d).map V.int := by
  induction k with
  | zero => rfl
  | succ k ih => rw [List.replicate_succ, List.replicate_succ, List.flatten_cons, ih]; rfl
/-- (d,) * k -/
theorem repN_one {K : PySem.W.Frag} {H : Hp} {l : Addr} {d k : Int} {Q : VK} (hl : H l = some (.tup [.int d])) (k0 : 0 ≤ k) (k1 : k ≤ 1000) (h : ∀ p H', Same H H' → (p = l ∨ H p = none) → H' p = some (.tup ((List.replicate k.toNat d).map V.int)) → Q (.ref p) H') : rRepN K (.ref l) (.int k) H Q := by
  refine ⟨l, k, [.int d], rfl, rfl, SqT.of hl, by simp, k0, k1, by show 1 ≤ 1000; decide, fun e => ?_, fun _ p hp => ?_⟩
  · subst e
    exact h l H (fun _ _ e => e) (.inl rfl) hl
  · rw [ints_rep]
    exact h p _ (same_new hp) (.inr hp) upd_same
end Tw
namespace Tw
open PySem PySem.Spec PyProof.Rows L2
/-! ### super().__init__(x) where the next class has an own __init__ -/
/-- a method of the class at C whose body reads __class__; fA: the method that super() finds -/
structure FunO (P : Program) (K : PySem.W.Frag) (mg : Str → Option Value) (x qual : Str) (st : Stmt) (f C cc cda : Addr) (fd : FuncData) (fA : Addr) : Prop where
  ex : ∃ (oc : Value) (od : Option Addr) (kV doc pm : Value) (an : Option Addr) (ct : Value) (osl : Array (Option Value)),
    fd = PySem.W.fnX x qual (defArgs st) (defBody st) (defScope st) [("__class__", cc)] .none kV doc pm an (.ref cda) ct ∧ K.lookup f = some ⟨oc, od, .func fd, osl⟩
  cd : PySem.W.codeIn K (.ref cda) qual = true
  cell : ∃ (cl : Value) (cld : Option Addr) (csl : Array (Option Value)), K.lookup cc = some ⟨cl, cld, .cell (some (.ref C)), csl⟩
  co : ∃ (ccl : Value) (cdd : Option Addr) (vs : Array Value) (ccs : Array (Option Value)) (file : Str) (tf : Tok), K.lookup cda = some ⟨ccl, cdd, .fields vs, ccs⟩ ∧ vs[2]? = some (.str file tf) ∧ ((P.main.file : Str) == file) = true
  cls : PySem.W.isClsIn K C = true
  mro : PySem.W.mroIn K C (.ref C) = some true
  sup : PySem.W.ks_superIn K C C "__init__" = some (some (.ref fA))
  fi : PySem.W.fnIn K fA = true
  fo : PySem.W.isFn K (.ref fA) = true
  opq : PySem.W.nsIn K cStatics "thirdparty.any" = some none
  mgs : mg "super" = none
  top : (P.main.scope.names.lookup ("super" : Str)).isSome = false
  par : ∃ ar, ((defArgs st).posonlyargs ++ (defArgs st).args).head? = some ar ∧ ar.arg = ("self" : Str)
  scS : (defScope st).names.lookup ("super" : Str) = some .globalImplicit
  scC : (defScope st).names.lookup ("__class__" : Str) = some .free
  scL : (defScope st).names.lookup ("self" : Str) = some .local
section
variable {P : Program} {w : World} {K : PySem.W.Frag} {mg : Str → Option Value} {base : Heap} {N : List Str} {x qual : Str} {st : Stmt} {f C cc cda a fA dx : Addr} {fs : List (Str × V)} {fd : FuncData} {A : Around} {outer : List Env} {s0 s : Shared} {H0 H : Hp} {E : XK} {σ : L2.St} {e : Expr} {es : List Expr} {ta : TA} {p0 p1 p2 p3 p4 : Pos} {R : Flow → Shared → Prop} {spA : Sp} {kA : Nat} {pl : Sem Bool}
theorem sup_own (FC : FunO P K mg x qual st f C cc cda fd fA) (FA : FnR P w K mg base CX0 kA fA spA) (hk : (defScope st).kind = .function) (hN : N[0]? = some ("self" : Str)) (hrm : Room kA (NdefX.ncx CX0 P w K mg base N (nfOf x qual st cc cda) f A outer s0 H0 E).A)
    (I : Inv (NdefX.ncx CX0 P w K mg base N (nfOf x qual st cc cda) f A outer s0 H0 E) [] σ H s) (hσ : σ[0]? = some (some (.ref a))) (hx : H a = some (.ins C dx fs)) (ha : PA (NdefX.ncx CX0 P w K mg base N (nfOf x qual st cc cda) f A outer s0 H0 E) (e :: es) ta)
    (Y : SupSyn (NdefX.ncx CX0 P w K mg base N (nfOf x qual st cc cda) f A outer s0 H0 E).env e es p0 p1 p2 p3 p4 pl)
    (h : ta σ H fun vs H1 => spA (.ref a :: vs) H1 (fun _ H2 => ∀ s', Inv (NdefX.ncx CX0 P w K mg base N (nfOf x qual st cc cda) f A outer s0 H0 E) [] σ H2 s' → R .next s') E0) :
    _root_.PySem.wpAt (model P w) (NdefX.ncx CX0 P w K mg base N (nfOf x qual st cc cda) f A outer s0 H0 E).A (.func (defBody st) (NdefX.ncx CX0 P w K mg base N (nfOf x qual st cc cda) f A outer s0 H0 E).env)
      (exec (.Expr (.Call (.Attribute (.Call (.Name "super" p0) [] [] p1) "__init__" p2) (e :: es) [] p3) p4) (NdefX.ncx CX0 P w K mg base N (nfOf x qual st cc cda) f A outer s0 H0 E).env) R (NdefX.ncx CX0 P w K mg base N (nfOf x qual st cc cda) f A outer s0 H0 E).xe s := by
  obtain ⟨oc, od, kV, doc, pm, an, ct, osl, rfl, lk⟩ := FC.ex
  obtain ⟨cl, cld, csl, hcell⟩ := FC.cell
  obtain ⟨ccl, cdd, vs, ccs, file, tf, hco, hvs, hfile⟩ := FC.co
  obtain ⟨ar, har, ear⟩ := FC.par
  obtain ⟨cd, hcl⟩ := Option.isSome_iff_exists.mp (show (PySem.W.clsIn K C).isSome = true from FC.cls)
  have KX : K.In s.heap := I.kIn
  obtain ⟨oC, hC, hCd⟩ : ∃ oC, K.lookup C = some oC ∧ oC.data = .cls cd := by
    unfold PySem.W.clsIn at hcl
    split at hcl
    · rename_i ho; cases hcl; exact ⟨_, ho, rfl⟩
    · cases hcl
  obtain ⟨oF, hF, hFc⟩ : ∃ oF, K.lookup fA = some oF ∧ oF.cls = .type "function" := by
    have z := eq_of_beq (show (PySem.W.typeIn K (.ref fA) == some (.type "function")) = true from FC.fo)
    obtain ⟨o, h1, h2⟩ := Option.map_eq_some_iff.mp (show (K.lookup fA).map (·.cls) = some (.type "function") from z)
    exact ⟨o, h1, h2⟩
  obtain ⟨_, _, _, ho, _⟩ := I.hok a _ hx
  obtain ⟨m, hns, hloc⟩ := I.loc
  obtain ⟨u, ru, hlook⟩ := hloc 0 "self" (.ref a) hN hσ (.inl FC.scL)
  obtain rfl : u = Value.ref a := ru
  have hm : m "self" = some (.ref a) := by
    rcases hlook with ⟨_, z⟩ | ⟨z, _⟩
    · exact z
    · rcases z with z | z <;> exact absurd (FC.scL.symm.trans z) (by simp)
  obtain ⟨mb, hb1, hb2⟩ := I.ok.mod.blt
  refine ks_wpAt_Expr_any (ks_wpAt_MethodCall (pl := pl) ?_ Y.hc) Y.hi Y.hs
  refine ks_wpAt_super_base FC.scS FC.scC (by decide) rfl (KX _ _ lk) rfl har rfl (KX _ _ hco) rfl hvs hfile FC.top ?_
  refine PySem.W.ks_loadName_global hk FC.scS (PySem.Calls.loadGlobal_builtin (env := (NdefX.ncx CX0 P w K mg base N (nfOf x qual st cc cda) f A outer s0 H0 E).env) (I.ok.mod.glob.keeps I.bk) FC.mgs (hb1.keeps I.bk) ((hb2 _ (by decide)).trans (by decide +kernel : bootBuiltins "super" = some (.type "super"))) ⟨rfl, ?_⟩)
  refine wpAny_loadName_free hk FC.scC (c := cc) rfl ⟨_, KX _ _ hcell, rfl⟩ ?_
  refine wpAny_loadName_local hk (by rw [ear]; exact FC.scL) hns (by rw [ear]; exact hm) ?_
  obtain ⟨hp, g, d, t, os⟩ := s
  refine ks_wpAny_isType_cls (KX _ _ hC) hCd ⟨rfl, ?_⟩
  refine ks_wpAny_call_super (KX _ _ hC) hCd ho rfl (fun c z => nomatch z) (PySem.W.looks_mroIn KX FC.mro) (fun h' so k => ?_)
  have I1 : Inv (NdefX.ncx CX0 P w K mg base N (nfOf x qual st cc cda) f A outer s0 H0 E) [] σ H ⟨h', g, d, t, os⟩ := I.kept (t' := t) k
  have KX1 : K.In h' := I1.kIn
  have hsup : PySem.W.alongIn K "__init__" ((cd.mro.dropWhile (· != .ref C)).drop 1) = some (some (.ref fA)) := by
    have z := FC.sup
    unfold PySem.W.ks_superIn at z
    rw [hcl] at z
    exact z
  have hne : a ≠ C := fun z => by
    have z2 := KX _ _ hC
    rw [← z] at z2
    have z3 := (Option.some.inj (ho.symm.trans z2))
    rw [← z3] at hCd
    exact nomatch hCd
  refine ks_wpAny_getMethod_super so (PySem.W.looks_opaque KX1 FC.opq) (l₀ := cd.mro) (fun A Q E s k q => wpAny_bind ((PySem.W.looks_clsIn KX1 hcl) A _ E s k (wpAny_pure q))) rfl KX1 hsup (KX1 _ _ hF) hFc hne (by decide) ?_
  have I2 : Inv (NdefX.ncx CX0 P w K mg base N (nfOf x qual st cc cda) f A outer s0 H0 E) [(h'.objs.size, PySem.W.methodObj (.ref fA) (.ref a))] σ H ⟨h'.push (PySem.W.methodObj (.ref fA) (.ref a)), g, d, t + 1, os⟩ :=
    ClX.pin_new I1 (fun _ _ z => Heap.get?_push_of_some _ z) (Nat.le_refl _) (Heap.get?_push_size h' rfl) (fun v z => nomatch z)
  refine ClX.callwith_cm I2 (ClX.base_none I1 (Nat.le_refl _)) FC.fi (thn (ha.run p3 _ _ σ H _ I2 h) fun us s1 ⟨vs', H1, I3, r1, q⟩ => ⟨⟨ClX.pin_at I3, I3.kIn⟩, ?_⟩) Y.he Y.hpl
  exact thn (ClX.run_cm FA hrm pass0 I3 r1 q) fun v s2 ⟨_, H2, I4, _, q2⟩ => q2 _ I4
end
section
variable {P : Program} {w : World} {K : PySem.W.Frag} {mg : Str → Option Value} {base : Heap} {N ps : List Str} {x qual : Str} {st : Stmt} {f C cc cda : Addr} {fd : FuncData} {e : Expr} {es : List Expr} {p0 p1 p2 p3 p4 : Pos} {rest : List Stmt} {k : Nat} {sp : Sp}
theorem funO_ok {spA : Sp} {kA : Nat} {fA : Addr} (FC : FunO P K mg x qual st f C cc cda fd fA) (FA : FnR P w K mg base CX0 kA fA spA) (hkA : kA ≤ k) (S : NdefX.NScope N ps ["__class__"] (defScope st)) (hN : N[0]? = some ("self" : Str)) (len : ∀ vs H Q E, sp vs H Q E → vs.length = ps.length)
    (hb0 : defBody st = .Expr (.Call (.Attribute (.Call (.Name "super" p0) [] [] p1) "__init__" p2) (e :: es) [] p3) p4 :: rest)
    (hbody : ∀ (A : Around) (outer : List Env) (s : Shared) (H : Hp) (vs : List V) (Q : VK) (E : XK), Room k (A.deeper (NdefX.envF (nfOf x qual st cc cda) f s.heap.objs.size)) → sp vs H Q E →
      ∃ (a dx : Addr) (fs : List (Str × V)) (ta : TA) (t : TS) (pl : Sem Bool), vs[0]? = some (.ref a) ∧ H a = some (.ins C dx fs) ∧ SupSyn (NdefX.ncx CX0 P w K mg base N (nfOf x qual st cc cda) f A outer s H E).env e es p0 p1 p2 p3 p4 pl ∧
        PA (NdefX.ncx CX0 P w K mg base N (nfOf x qual st cc cda) f A outer s H E) (e :: es) ta ∧ PSs (NdefX.ncx CX0 P w K mg base N (nfOf x qual st cc cda) f A outer s H E) rest t ∧
        ∀ Pc : Hp → Prop, (∀ H1, t { nx := fun _ H' => Q .non H', rt := Q } (NdefX.startF N vs [none]) H1 → Pc H1) → ta (NdefX.startF N vs [none]) H fun us H1 => spA (.ref a :: us) H1 (fun _ H2 => Pc H2) E0) :
    FnOk P w K mg base CX0 (k + 1) f fd ps sp := by
  refine ⟨len, fun A outer s H args us vs Q E hr e0 hb r hsp => ?_⟩
  have hl := len _ _ _ _ hsp
  have KX : K.In s.heap := e0.mod.kin.keeps fun b o e => (e0.bs b o e).1
  have lim : s.heap.NoLimit := e0.mod.nolimit.keeps fun b o e => (e0.bs b o e).1
  obtain ⟨oc, od, kV, doc, pm, an, ct, osl, efd, lk⟩ := FC.ex
  obtain ⟨cl, cld, csl, hcell⟩ := FC.cell
  subst efd
  have hcc : H cc = none ∧ ∃ v, s.heap.IsCell cc v := ⟨(e0.bs cc _ (e0.mod.kin _ _ hcell)).2, _, _, KX _ _ hcell, rfl⟩
  have only : ∀ y c, ([("__class__", cc)] : List (Str × Addr)).lookup y = some c → y = ("__class__" : Str) ∧ c = cc := fun y c z => by
    rw [lookup_one] at z
    split at z
    · rename_i q
      exact ⟨q, (Option.some.inj z).symm⟩
    · cases z
  have C' : NdefX.CellsAt [("__class__", cc)] ["__class__"] [none] s.heap H := ⟨rfl, fun y c z => by
      obtain ⟨rfl, rfl⟩ := only y c z
      exact hcc, fun y z c h1 h2 => by rw [(only y c h1).1, (only z c h2).1], fun i y hi => by
      match i, hi with
      | 0, hi =>
        obtain rfl := Option.some.inj hi
        exact ⟨cc, by rw [lookup_one, if_pos rfl], fun v hv => by cases hv⟩
      | i + 1, hi => exact absurd hi (by simp)⟩
  refine codeAny_call_function hr.depth (KX _ _ lk) rfl S.co S.gen rfl (PySem.W.codeRec_of KX FC.cd) (hb _ _ _ _ ?_)
  refine wpAny_newFunctionEnv S.nocell (fun ⟨n, _⟩ hy => S.par n (List.of_mem_zip hy).1) (fun h₁ hns hsb => ⟨lim.fresh _ hsb, ?_⟩) S.kind
  show codeAny _ _ (.func (defBody st) (NdefX.envF (nfOf x qual st cc cda) f s.heap.objs.size)) _ _
  refine ks_codeAny_funcAt ?_
  have kp : ∀ b o, s.heap.get? b = some o → h₁.get? b = some o := fun b o e => hsb.extBut b o (Nat.ne_of_lt (Heap.lt_size e)) (Heap.get?_push_of_some _ e)
  obtain ⟨a, dx, fs, ta, t, pl, hv0, hx, Y, hpa, hps, hq⟩ := hbody A outer s H vs Q E (hr.deeper _) hsp
  have I : Inv (NdefX.ncx CX0 P w K mg base N (nfOf x qual st cc cda) f A outer s H E) [] (NdefX.startF N vs [none]) H { s with heap := h₁, toks := s.toks + (ps.zip us).length } := NdefX.inv_startN S hr.hd e0 hl r C' hns kp
  have fin : ∀ {s' : Shared} {σ' : L2.St} {H' : Hp} {v : V} {u : Value}, Inv (NdefX.ncx CX0 P w K mg base N (nfOf x qual st cc cda) f A outer s H E) [] σ' H' s' → L2.RelV v u → Q v H' → CE outer P w H s Q u s' :=
    fun {s' σ' H' v u} J rv q => ⟨v, H', J.os, J.bare, J.base, J.hok, rv, q⟩
  have hσ : (NdefX.startF N vs [none])[0]? = some (some (.ref a)) := by
    unfold NdefX.startF
    rw [List.getElem?_append_left (by rw [List.length_map]; exact (List.getElem?_eq_some_iff.mp hv0).1), List.getElem?_map, hv0]
    rfl
  have e1 : execs (defBody st) (NdefX.envF (nfOf x qual st cc cda) f s.heap.objs.size) = execs (.Expr (.Call (.Attribute (.Call (.Name "super" p0) [] [] p1) "__init__" p2) (e :: es) [] p3) p4 :: rest) (NdefX.envF (nfOf x qual st cc cda) f s.heap.objs.size) := congrArg (fun b => execs b _) hb0
  rw [e1]
  refine ks_wpAt_execs_cons (sup_own FC FA S.kind hN ((hr.deeper _).mono hkA) I hσ hx hpa Y (hq (fun H1 => ∀ s', Inv (NdefX.ncx CX0 P w K mg base N (nfOf x qual st cc cda) f A outer s H E) [] (NdefX.startF N vs [none]) H1 s' → _) fun H1 ht s' J => ?_))
  refine wpAt_of_wpAny ?_
  refine wpAny_mono (hps.run [] _ (NdefX.startF N vs [none]) H1 _ J ht) (fun fl s' hs => ?_) fun e s' hs => hs
  cases fl with
  | ret u =>
    obtain ⟨v, σ', H', J, rv, q⟩ := hs
    exact fin J rv q
  | next =>
    obtain ⟨σ', H', J, q⟩ := hs
    exact fin (v := V.non) (u := Value.none) J rfl q
  | brk =>
    obtain ⟨_, _, _, q⟩ := hs
    exact False.elim q
  | cont =>
    obtain ⟨_, _, _, q⟩ := hs
    exact False.elim q
end
end Tw
namespace Tw
open PySem PySem.Spec PyProof.Rows L2
/-! ### a comprehension whose items are lists made anew -/
theorem lcB {K : PySem.W.Frag} {J : It} {xs : List V} {R : Nat → V → Hp → Prop} {g : TG} {te : TE} {vs : List Nat} {σ : L2.St} {H1 : Hp} {D : Addr} {Qd : Hp → Prop} (hD : H1 D = none) (hz : xs.length < sizeLine)
    (hgo : ∀ H (j : Nat), Same H1 H → j < xs.length → J.go j H) (hstop : ∀ H, Same H1 H → J.stop xs.length H)
    (hR : ∀ i y H H', Same H H' → R i y H → R i y H') (hRl : ∀ i y H zs, R i y H → R i y (upd H D (.lst zs)))
    (he : ∀ (j : Nat) x H' v H2 (Qk : V → Hp → Prop), xs[j]? = some x → Same H1 H' → (∃ ys, H' D = some (.lst ys)) → J.yld j H' v H2 → (∀ y H3, Same H' H3 → R j y H3 → Qk y H3) → g v (wipe σ vs) H2 fun σ2 H3 => wipe σ2 vs = wipe σ vs ∧ te σ2 H3 Qk)
    (hd : ∀ ys H', Same H1 H' → H' D = some (.lst ys) → ys.length = xs.length → (∀ (i : Nat) y, ys[i]? = some y → R i y H') → Qd H')
    (hgm : ∀ v σ H (A B : L2.St → Hp → Prop), (∀ σ H, A σ H → B σ H) → g v σ H A → g v σ H B) :
    ∃ W : Nat → Nat → Hp → Prop, (∃ m, W 0 m (upd H1 D (.lst []))) ∧ ∀ i' m H, W i' m H →
      (J.stop i' H ∧ Qd H) ∨ (J.go i' H ∧ ∃ Nx : Hp → Prop, (∀ H', Nx H' → ∃ m', m' < m ∧ W (i' + 1) m' H') ∧ ∀ x H', J.yld i' H x H' → g x (wipe σ vs) H' fun σ2 H2 => wipe σ2 vs = wipe σ vs ∧ tYes σ2 H2 fun b H3 =>
        if b = true then te σ2 H3 fun y H4 => ∃ acc, H4 D = some (.lst acc) ∧ acc.length < sizeLine ∧ Nx (upd H4 D (.lst (acc ++ [y]))) else Nx H3) := by
  refine ⟨fun j m H => m = xs.length - j ∧ j ≤ xs.length ∧ Same H1 H ∧ ∃ ys, H D = some (.lst ys) ∧ ys.length = j ∧ ∀ (i : Nat) y, ys[i]? = some y → R i y H,
    ⟨xs.length, rfl, Nat.zero_le _, same_new hD, [], upd_same, rfl, fun i y h => by simp at h⟩, ?_⟩
  rintro j m H ⟨rfl, hj, s1, ys, hDl, hyl, hy⟩
  by_cases c : j < xs.length
  · have hx : xs[j]? = some xs[j] := List.getElem?_eq_getElem c
    refine .inr ⟨hgo H j s1 c, fun H' => Same H1 H' ∧ ∃ ys, H' D = some (.lst ys) ∧ ys.length = j + 1 ∧ ∀ (i : Nat) y, ys[i]? = some y → R i y H', fun H' p => ⟨xs.length - (j + 1), by omega, rfl, c, p⟩, ?_⟩
    intro v H' hyld
    refine hgm _ _ _ _ _ (fun σ2 H2 p => ⟨p.1, yes_ p.2⟩) (he j _ H v H' (fun y H4 => ∃ acc, H4 D = some (.lst acc) ∧ acc.length < sizeLine ∧ Same H1 (upd H4 D (.lst (acc ++ [y]))) ∧ ∃ ys, (upd H4 D (.lst (acc ++ [y]))) D = some (.lst ys) ∧ ys.length = j + 1 ∧ ∀ (i : Nat) z, ys[i]? = some z → R i z (upd H4 D (.lst (acc ++ [y])))) hx s1 ⟨ys, hDl⟩ hyld fun y H3 s3 r => ?_)
    refine ⟨ys, s3 _ _ hDl, by omega, same_put (Same.trans s1 s3) hD, ys ++ [y], upd_same, by simp [hyl], fun i z hz' => ?_⟩
    by_cases ci : i < ys.length
    · rw [List.getElem?_append_left ci] at hz'
      exact hRl _ _ _ _ (hR _ _ _ _ s3 (hy i z hz'))
    · rw [List.getElem?_append_right (by omega)] at hz'
      by_cases c0 : i - ys.length = 0
      · rw [c0] at hz'
        obtain rfl := Option.some.inj hz'
        have ei : i = j := by omega
        subst ei
        exact hRl _ _ _ _ r
      · obtain ⟨q, hq⟩ : ∃ q, i - ys.length = q + 1 := ⟨i - ys.length - 1, by omega⟩
        rw [hq] at hz'
        simp at hz'
  · have e : j = xs.length := by omega
    subst e
    exact .inl ⟨hstop H s1, hd ys H s1 hDl hyl hy⟩
/-! ### a dict of the places of tuples of ints -/
def kyL (ds : List Int) : List Key := ds.map Sum.inl
theorem kyL_inj : ∀ {ds es : List Int}, kyL ds = kyL es → ds = es
  | [], [], _ => rfl
  | [], _ :: _, h => by cases h
  | _ :: _, [], h => by cases h
  | a :: r, b :: q, h => by
    injection h with h1 h2
    injection h1 with h1
    rw [h1, kyL_inj h2]
theorem kyL_kV (ds : List Int) : (kyL ds).map kV = ds.map V.int := by
  unfold kyL
  rw [List.map_map]; rfl
/-- the first place below n at which f is d -/
def fstAt (f : Nat → List Int) (d : List Int) : Nat → Option Nat
  | 0 => none
  | n + 1 => match fstAt f d n with
    | some i => some i
    | none => if f n = d then some n else none
/-- a dict holds for each list its first place below n -/
structure PlL (kvs : List (List Key × V)) (f : Nat → List Int) (n : Nat) : Prop where
  len : kvs.length ≤ n
  val : ∀ d, valV kvs (kyL d) = (fstAt f d n).map fun (i : Nat) => V.int (i : Int)
end Tw
namespace Tw
open PySem PySem.Spec PyProof.Rows L2
/-! ### a dial above which the total is 0: its round is as long as the one below -/
section
variable {p : Int} {M : Mach} {st : Int}
theorem Per.stay (hP : IsP p) {n L : Nat} (h : Per p M st n L) (hT : sumT p M st n L % p = 0) : Per p M st (n + 1) L := by
  refine ⟨h.pos, ?_, fun i h0 h1 e => ?_⟩
  · rw [itB_up hP, h.back, hT, zeros_up]
  · rw [itB_up hP, zeros_up] at e
    exact h.fst i h0 h1 (snoc_inj e).1
/-- .. and it does not come to the setting with 1 at that dial -/
theorem Per.apart (hP : IsP p) {n L : Nat} (h : Per p M st n L) (hT : sumT p M st n L % p = 0) : ∀ i, i < L → itB p M st (n + 1) i ≠ List.replicate n 0 ++ [1] := fun i hi e => by
  rw [itB_up hP] at e
  obtain ⟨e1, e2⟩ := snoc_inj e
  rcases Nat.eq_zero_or_pos i with q | q
  · subst q
    have z : sumT p M st n 0 % p = 0 := by
      show (0 : Int) % p = 0
      exact Int.zero_emod p
    rw [z] at e2
    exact absurd e2 (by decide)
  · exact h.fst i q hi e1
/-- all totals below n differ from 0: the round of n dials -/
theorem Rnd.of (hP : IsP p) (hO : OkM p M.length M) (z0 : 0 ≤ st) (z1 : st < (M.length : Int)) : ∀ n, (∀ i, i < n → totN p M st i ≠ 0) → Rnd p M st n (p.toNat ^ n)
  | 0, _ => Rnd.zero z0 z1
  | n + 1, h => by
    have r := Rnd.of hP hO z0 z1 n fun i hi => h i (by omega)
    have q := r.next hP hO (by rw [r.tot hP]; exact h n (Nat.lt_succ_self n))
    rw [Nat.pow_succ, Nat.mul_comm]
    exact q
end
end Tw
namespace Tw
open PySem PySem.Spec PyProof.Rows L2
/-! ### a tuple of ints in a list of such -/
end Tw
namespace Tw
open PySem PySem.Spec PyProof.Rows L2
/-! ### totals as weights brought down, dial by dial (for totals of products, inverses and least turners) -/
section
variable {p : Int} {M N : Mach} {st : Int}
end
end Tw
namespace Tw
open PySem PySem.Spec PyProof.Rows L2
/-! ### what the top leaves, read off once: the part of the heap that the law needs, its defs and its facts -/
abbrev Fg := PySem.W.Frag
def vAd : Value → List Addr
  | .ref a => [a]
  | _ => []
/-- a def's code, its keyword defaults and its cells; a class's names -/
def rfDef (o : Obj) : List Addr := match o.data with
  | .func fd => vAd fd.code ++ (vAd fd.kwdefaults ++ fd.closure.map (·.2))
  | .cls cd => [cd.ns]
  | _ => []
def rfNs (o : Obj) : List Addr := match o.data with
  | .dict es _ => (es.toList.map fun e => vAd e.val).flatten
  | _ => []
/-- what stands in a property, a static method, a class method -/
def rfRec (o : Obj) : List Addr := match o.data with
  | .fields vs => if o.cls == .type "property" || o.cls == .type "staticmethod" || o.cls == .type "classmethod" then (vs.toList.map vAd).flatten else []
  | _ => []
def nxtA (g : Addr → Option Obj) (rf : Obj → List Addr) (as : List Addr) : List Addr := (as.map fun a => match g a with
  | some o => rf o
  | none => []).flatten
def adrH (ns : List Str) (g : Addr → Option Obj) : List Addr :=
  (fun n0 => (fun n1 => (fun n2 => (fun n3 => n0 ++ (n2 ++ (n1 ++ (nxtA g rfDef n2 ++ (n3 ++ (nxtA g rfDef n3 ++ [mainGlobals, cStatics])))))) (nxtA g rfRec n2)) (nxtA g rfNs n1)) (nxtA g rfDef n0)) (ns.map (He.ga (He.frG g [mainGlobals])))
/-- a def as it stands in the text, and where -/
structure FdO where
  at_ : Fg → Addr
  name : Str
  qual : Str
  params : Arguments
  body : List Stmt
  scope : Scope
  clo : List Str
  kwd : List (Str × V)
abbrev FvO := Option (Str × Str × Arguments × FuncBody × Scope × Addr × List Str × Addr)
def fvO (K : Fg) (a : Addr) : FvO := match K.lookup a with
  | some ⟨_, _, .func fd, _⟩ => some (fd.name, fd.qualname, fd.params, fd.body, fd.scope, fd.globals, fd.closure.map (·.1), fd.builtins)
  | _ => none
def FdO.val (d : FdO) : FvO := some (d.name, d.qual, d.params, .stmts d.body, d.scope, mainGlobals, d.clo, builtinsNs)
def FdO.ok (K : Fg) (d : FdO) : Bool := PySem.W.keepIn K (.ref (d.at_ K)) && match K.lookup (d.at_ K) with
  | some ⟨_, _, .func fd, _⟩ => PySem.W.codeIn K fd.code d.qual && (He.dflB K fd.defaults [] && He.kwdB K fd.kwdefaults d.kwd)
  | _ => false
abbrev AlO := List FvO × Bool
def obO (fs : List FdO) (ex : Fg → List Bool) (K : Fg) : AlO := (fs.map fun d => fvO K (d.at_ K), fs.all (FdO.ok K) && (ex K).all id)
def SaysO (fs : List FdO) (ex : Fg → List Bool) (K : Fg) : Prop := obO fs ex K = (fs.map FdO.val, true)
theorem says_ex {fs : List FdO} {ex : Fg → List Bool} {K : Fg} (c : SaysO fs ex K) (i : Nat) {b : Bool} (h : (ex K)[i]? = some b) : b = true := by
  have e : (fs.all (FdO.ok K) && (ex K).all id) = true := congrArg Prod.snd c
  rw [Bool.and_eq_true_iff] at e
  exact List.all_eq_true.mp e.2 b (List.mem_of_getElem? h)
theorem says_fd {fs : List FdO} {ex : Fg → List Bool} {K : Fg} (c : SaysO fs ex K) (i : Nat) {d : FdO} (h : fs[i]? = some d) :
    ∃ fd oc od osl, K.lookup (d.at_ K) = some ⟨oc, od, .func fd, osl⟩ ∧ PySem.W.keepIn K (.ref (d.at_ K)) = true ∧ PySem.W.codeIn K fd.code d.qual = true ∧ DflV K fd.defaults [] ∧ KwdV K fd.kwdefaults d.kwd ∧ fd.defaults = .none ∧
      fd.name = d.name ∧ fd.qualname = d.qual ∧ fd.params = d.params ∧ fd.body = .stmts d.body ∧ fd.scope = d.scope ∧ fd.globals = mainGlobals ∧ fd.closure.map (·.1) = d.clo ∧ fd.builtins = builtinsNs := by
  have e1 : (fs.map fun d => fvO K (d.at_ K)) = fs.map FdO.val := congrArg Prod.fst c
  have e2 : (fs.all (FdO.ok K) && (ex K).all id) = true := congrArg Prod.snd c
  rw [Bool.and_eq_true_iff] at e2
  have e3 : FdO.ok K d = true := List.all_eq_true.mp e2.1 d (List.mem_of_getElem? h)
  have e4 : (fs.map fun d => fvO K (d.at_ K))[i]? = (fs.map FdO.val)[i]? := by rw [e1]
  rw [List.getElem?_map, List.getElem?_map, h] at e4
  have e5 : fvO K (d.at_ K) = FdO.val d := Option.some.inj e4
  unfold FdO.ok at e3
  rw [Bool.and_eq_true_iff] at e3
  obtain ⟨hk, e3⟩ := e3
  unfold fvO FdO.val at e5
  split at e5
  · rename_i oc od fd osl hl
    rw [hl] at e3
    dsimp only at e3
    rw [Bool.and_eq_true_iff, Bool.and_eq_true_iff] at e3
    have e6 := Option.some.inj e5
    simp only [Prod.mk.injEq] at e6
    obtain ⟨a1, a2, a3, a4, a5, a6, a7, a8⟩ := e6
    refine ⟨fd, oc, od, osl, hl, hk, e3.1, He.dflB_ok e3.2.1, He.kwdB_ok e3.2.2, ?_, a1, a2, a3, a4, a5, a6, a7, a8⟩
    have z := e3.2.1
    unfold He.dflB at z
    dsimp only at z
    split at z
    · rename_i hz; exact hz
    · cases z
  · cases e5
theorem says_fun {fs : List FdO} {ex : Fg → List Bool} {K : Fg} (c : SaysO fs ex K) (i : Nat) {at_ : Fg → Addr} {x qual : Str} {st : Stmt} {kwd : List (Str × V)} (h : fs[i]? = some ⟨at_, x, qual, defArgs st, defBody st, defScope st, [], kwd⟩) : ∃ fd, Fun K x qual st (at_ K) fd := by
  obtain ⟨fd, oc, od, osl, h1, h2, h3, _, _, h6, a1, a2, a3, a4, a5, a6, a7, a8⟩ := says_fd c i h
  obtain ⟨name, qualname, params, body, scope, globals, closure, defaults, kwdefaults, doc, pm, an, code, ct, bi⟩ := fd
  dsimp only at a1 a2 a3 a4 a5 a6 a7 a8 h6 h3
  have a7' : closure = [] := List.map_eq_nil_iff.mp a7
  subst a1 a2 a3 a4 a5 a6 a7' a8 h6
  exact ⟨_, fun_mk h1 h3 h2⟩
theorem says_funD {fs : List FdO} {ex : Fg → List Bool} {K : Fg} (c : SaysO fs ex K) (i : Nat) {at_ : Fg → Addr} {x qual : Str} {pr : Arguments} {bo : List Stmt} {sc : Scope} {kwd : List (Str × V)} (h : fs[i]? = some ⟨at_, x, qual, pr, bo, sc, [], kwd⟩) : ∃ fd, FunD K x qual pr bo sc [] kwd (at_ K) fd := by
  obtain ⟨fd, oc, od, osl, h1, h2, h3, h4, h5, h6, a1, a2, a3, a4, a5, a6, a7, a8⟩ := says_fd c i h
  obtain ⟨name, qualname, params, body, scope, globals, closure, defaults, kwdefaults, doc, pm, an, code, ct, bi⟩ := fd
  dsimp only at a1 a2 a3 a4 a5 a6 a7 a8 h6 h3 h4 h5
  have a7' : closure = [] := List.map_eq_nil_iff.mp a7
  subst a1 a2 a3 a4 a5 a6 a7' a8 h6
  exact ⟨_, ⟨oc, od, _, _, _, _, _, _, _, _, rfl, h1, h3, h4, h5⟩, h2⟩
/-! addresses and facts by names -/
def paA (K : Fg) (T : String) (q : Addr) : Addr := match PySem.W.recIn K q T with
  | some (.ref f :: _) => f
  | _ => 0
def recB (K : Fg) (T : String) (q : Addr) : Bool := match PySem.W.recIn K q T with
  | some (.ref _ :: _) => true
  | _ => false
theorem recB_ok {K : Fg} {T : String} {q : Addr} (h : recB K T q = true) : ∃ r, PySem.W.recIn K q T = some (.ref (paA K T q) :: r) := by
  unfold recB at h
  unfold paA
  split at h
  · rename_i f r e
    rw [e]; exact ⟨r, rfl⟩
  · cases h
def intB (K : Fg) (x : Str) (i : Int) : Bool := match PySem.W.nsIn K mainGlobals x with
  | some (some (.int j _)) => decide (j = i)
  | _ => false
theorem intB_ok {K : Fg} {x : Str} {i : Int} (h : intB K x i = true) : ∃ t, PySem.W.nsIn K mainGlobals x = some (some (.int i t)) := by
  unfold intB at h
  split at h
  · rename_i j t e
    rw [e, of_decide_eq_true h]; exact ⟨t, rfl⟩
  · cases h
def conB (K : Fg) (C : Addr) (x : Str) (i : Int) : Bool := match PySem.W.findCls K (.ref C) (.type "type") x with
  | some (.val (.int j _)) => decide (j = i)
  | _ => false
theorem conB_ok {K : Fg} {C : Addr} {x : Str} {i : Int} (h : conB K C x i = true) : ∃ t, PySem.W.findCls K (.ref C) (.type "type") x = some (.val (.int i t)) := by
  unfold conB at h
  split at h
  · rename_i j t e
    rw [e, of_decide_eq_true h]; exact ⟨t, rfl⟩
  · cases h
def stA (K : Fg) (C : Addr) (x : Str) : Addr := match PySem.W.findCls K (.ref C) (.type "type") x with
  | some (.get _ (.ref q) _ _) => q
  | _ => 0
def tup4 (K : Fg) (a : Addr) (i j k l : Int) : Bool := match K.lookup a with
  | some ⟨c, _, .seq xs _, _⟩ => decide (c = .type "tuple") && match xs with
    | ⟨[.int i1 _, .int j1 _, .int k1 _, .int l1 _]⟩ => decide (i1 = i) && (decide (j1 = j) && (decide (k1 = k) && decide (l1 = l)))
    | _ => false
  | _ => false
theorem tup4_ok {K : Fg} {a : Addr} {i j k l : Int} (h : tup4 K a i j k l = true) : ∃ d n s t1 t2 t3 t4, K.lookup a = some ⟨.type "tuple", d, .seq #[.int i t1, .int j t2, .int k t3, .int l t4] n, s⟩ := by
  unfold tup4 at h
  split at h
  · rename_i c d xs n s e
    rw [Bool.and_eq_true_iff] at h
    obtain ⟨h1, h2⟩ := h
    split at h2
    · rename_i i1 t1 j1 t2 k1 t3 l1 t4
      rw [Bool.and_eq_true_iff, Bool.and_eq_true_iff, Bool.and_eq_true_iff] at h2
      rw [e, of_decide_eq_true h1, of_decide_eq_true h2.1, of_decide_eq_true h2.2.1, of_decide_eq_true h2.2.2.1, of_decide_eq_true h2.2.2.2]
      exact ⟨d, n, s, t1, t2, t3, t4, rfl⟩
    · cases h2
  · cases h
/-! a method with super() -/
def ccA (K : Fg) (f : Addr) : Addr := match K.lookup f with
  | some ⟨_, _, .func fd, _⟩ => match fd.closure with
    | (_, c) :: _ => c
    | _ => 0
  | _ => 0
def cellB (K : Fg) (c C : Addr) : Bool := match K.lookup c with
  | some ⟨_, _, .cell (some v), _⟩ => decide (v = .ref C)
  | _ => false
theorem cellB_ok {K : Fg} {c C : Addr} (h : cellB K c C = true) : ∃ (cl : Value) (cld : Option Addr) (csl : Array (Option Value)), K.lookup c = some ⟨cl, cld, .cell (some (.ref C)), csl⟩ := by
  unfold cellB at h
  split at h
  · rename_i cl d v s e
    rw [e, of_decide_eq_true h]; exact ⟨_, _, _, rfl⟩
  · cases h
def cdA (K : Fg) (f : Addr) : Addr := match K.lookup f with
  | some ⟨_, _, .func fd, _⟩ => match fd.code with
    | .ref c => c
    | _ => 0
  | _ => 0
def strAt (o : Option Value) (file : Str) : Bool := match o with
  | some (.str z _) => file == z
  | _ => false
def cdB (K : Fg) (f : Addr) (file : Str) : Bool := match K.lookup f with
  | some ⟨_, _, .func fd, _⟩ => match fd.code with
    | .ref c => match K.lookup c with
      | some ⟨_, _, .fields vs, _⟩ => strAt vs[2]? file
      | _ => false
    | _ => false
  | _ => false
theorem strAt_ok {o : Option Value} {file : Str} (h : strAt o file = true) : ∃ (z : Str) (tf : Tok), o = some (.str z tf) ∧ (file == z) = true := by
  unfold strAt at h
  split at h
  · rename_i z tf
    exact ⟨z, tf, rfl, h⟩
  · cases h
theorem cdB_ok {K : Fg} {f : Addr} {file : Str} (h : cdB K f file = true) : (∃ oc od fd osl, K.lookup f = some ⟨oc, od, .func fd, osl⟩ ∧ fd.code = .ref (cdA K f)) ∧ ∃ (ccl : Value) (cdd : Option Addr) (vs : Array Value) (ccs : Array (Option Value)) (z : Str) (tf : Tok), K.lookup (cdA K f) = some ⟨ccl, cdd, .fields vs, ccs⟩ ∧ vs[2]? = some (.str z tf) ∧ (file == z) = true := by
  unfold cdB at h
  split at h
  · rename_i oc od fd osl e
    split at h
    · rename_i c ec
      have ea : cdA K f = c := by
        unfold cdA
        rw [e]
        dsimp only
        rw [ec]
      rw [ea]
      split at h
      · rename_i ccl cdd vs ccs e2
        obtain ⟨z, tf, e3, e4⟩ := strAt_ok h
        exact ⟨⟨oc, od, fd, osl, e, ec⟩, ccl, cdd, vs, ccs, z, tf, e2, e3, e4⟩
      · cases h
    · cases h
  · cases h
/-- super() of the class S goes on with A -/
def supB (K : Fg) (S A : Addr) : Bool := match PySem.W.clsIn K S, PySem.W.clsIn K A with
  | some cS, some cA => decide (cS.mro = .ref S :: cA.mro)
  | _, _ => false
theorem supB_ok {K : Fg} {S A f : Addr} {n : Str} (h : supB K S A = true) (h4 : PySem.W.findIn K (.ref A) n = some (some (.ref f))) : PySem.W.ks_superIn K S S n = some (some (.ref f)) := by
  unfold supB at h
  split at h
  · rename_i cS cA h1 h2
    have h3 := of_decide_eq_true h
    unfold PySem.W.ks_superIn
    rw [h1, Option.bind_some, h3]
    have e : ((Value.ref S :: cA.mro).dropWhile (· != .ref S)).drop 1 = cA.mro := by simp
    rw [e, ← h4]
    unfold PySem.W.clsIn at h2
    split at h2
    · rename_i ho
      cases h2
      unfold PySem.W.findIn
      dsimp only
      rw [ho]
    · cases h2
  · cases h
theorem says_sup {fs : List FdO} {ex : Fg → List Bool} {K : Fg} (c : SaysO fs ex K) (i : Nat) {at_ : Fg → Addr} {x qual : Str} {st : Stmt} (h : fs[i]? = some ⟨at_, x, qual, defArgs st, defBody st, defScope st, ["__class__"], []⟩) {file : Str} (hc : cdB K (at_ K) file = true) :
    ∃ kV doc pm an ct, (∃ oc od osl, K.lookup (at_ K) = some ⟨oc, od, .func (PySem.W.fnX x qual (defArgs st) (defBody st) (defScope st) [("__class__", ccA K (at_ K))] .none kV doc pm an (.ref (cdA K (at_ K))) ct), osl⟩) ∧ PySem.W.keepIn K (.ref (at_ K)) = true ∧ PySem.W.codeIn K (.ref (cdA K (at_ K))) qual = true := by
  obtain ⟨fd, oc, od, osl, h1, h2, h3, h4, h5, h6, a1, a2, a3, a4, a5, a6, a7, a8⟩ := says_fd c i h
  obtain ⟨⟨oc', od', fd', osl', l1, l2⟩, _⟩ := cdB_ok hc
  dsimp only at h1
  rw [h1] at l1
  cases l1
  obtain ⟨name, qualname, params, body, scope, globals, closure, defaults, kwdefaults, doc, pm, an, code, ct, bi⟩ := fd
  dsimp only at a1 a2 a3 a4 a5 a6 a7 a8 h6 h3 h4 h5 l2
  obtain ⟨cc, rfl⟩ : ∃ cc, closure = [(("__class__" : Str), cc)] := by
    match closure, a7 with
    | [(n, cc)], a7 =>
      have : n = ("__class__" : Str) := by injection a7
      exact ⟨cc, by rw [this]⟩
  subst a1 a2 a3 a4 a5 a6 a8 h6 l2
  have ec : ccA K (at_ K) = cc := by
    unfold ccA
    rw [h1]
  rw [ec]
  exact ⟨_, _, _, _, _, ⟨_, _, _, h1⟩, h2, h3⟩
/-! a def's row as the ends want it -/
theorem says_lk {fs : List FdO} {ex : Fg → List Bool} {K : Fg} (c : SaysO fs ex K) (i : Nat) {at_ : Fg → Addr} {x qual : Str} {st : Stmt} {kwd : List (Str × V)} (h : fs[i]? = some ⟨at_, x, qual, defArgs st, defBody st, defScope st, [], kwd⟩) :
    ∃ oc od sl kV dc pm an cd ct, K.lookup (at_ K) = some ⟨oc, od, .func (PySem.W.fnOf x qual (defArgs st) (defBody st) (defScope st) .none kV dc pm an cd ct), sl⟩ ∧ PySem.W.codeIn K cd qual = true ∧ PySem.W.keepIn K (.ref (at_ K)) = true := by
  obtain ⟨fd, F⟩ := says_fun c i h
  obtain ⟨oc, od, kV, dc, pm, an, cd, ct, sl, e, l, q⟩ := F.ex
  subst e
  exact ⟨oc, od, sl, kV, dc, pm, an, cd, ct, l, q, F.kp⟩
theorem says_lkw {fs : List FdO} {ex : Fg → List Bool} {K : Fg} (c : SaysO fs ex K) (i : Nat) {at_ : Fg → Addr} {x qual n : Str} {st : Stmt} {z : Int} (h : fs[i]? = some ⟨at_, x, qual, defArgs st, defBody st, defScope st, [], [(n, .int z)]⟩) :
    ∃ oc od sl dI dc pm an cd ct t, K.lookup (at_ K) = some ⟨oc, od, .func (PySem.W.fnOf x qual (defArgs st) (defBody st) (defScope st) .none (.ref dI) dc pm an cd ct), sl⟩ ∧ PySem.W.codeIn K cd qual = true ∧ PySem.W.keepIn K (.ref (at_ K)) = true ∧ PySem.W.nsIn K dI n = some (some (.int z t)) := by
  obtain ⟨fd, F⟩ := says_funD c i h
  obtain ⟨oc, od, dV, kV, dc, pm, an, cd, ct, sl, e, l, q, hD, hK⟩ := F.ex
  subst e
  rcases hD with ⟨_, rfl⟩ | ⟨e, _⟩
  · rcases hK with e | ⟨D, rfl, hq⟩
    · cases e
    · obtain ⟨u, hu, ru⟩ := hq _ (List.mem_singleton.mpr rfl)
      obtain ⟨t, rfl⟩ := ru
      exact ⟨oc, od, sl, D, dc, pm, an, cd, ct, t, l, q, F.kp, hu⟩
  · exact absurd rfl e
end Tw
namespace Tw
open PySem PySem.Spec PyProof.Rows L2
/-! ### self.__class__.__name__ in an own exception -/
section
open PySem.W PySem.HandSPX
variable {prog : Program} {w : World} {A : Around} {E : Value → Shared → Prop} {s : Shared} {K : PySem.W.Frag} {x C : Addr} {ox : Obj} {od : Option Obj} {expr : Bool} {Q : Value → Shared → Prop}
theorem err_class {gt : Option Value} (X : K.In s.heap) (I : PySem.W.InstAt s.heap x ox C od) (hga : findIn K (.ref C) "__getattribute__" = some (some (.builtin "BaseException.__getattribute__"))) (hgt : findIn K (.ref C) "__getattr__" = some gt)
    (hsub : subIn K (.ref C) (.type "BaseException") = some true) (hf : findObj K C od "__class__" = some (.bind (.builtin "getset_descriptor.__get__") (.builtin "object.__class__"))) (hm : mroIn K C (.type "object") = some true)
    (h : Q (.ref C) { s with toks := s.toks + 1 }) : wpAny (model prog w) A (getAttr (.ref x) "__class__" expr) Q E s := by
  obtain ⟨hp, g, d, t, os⟩ := s
  have T0 := I.type (M := model prog w)
  have T1 := looks_findIn (M := model prog w) X hga
  have T2 := looks_findIn (M := model prog w) X hgt
  have T3 := looks_find (M := model prog w) X I hf
  have isB : Looks (model prog w) hp (isInstance (.ref x) (.type "BaseException")) true := T0.andThen (looks_subIn X hsub)
  have n0 : (expr && onTheHeap (Value.builtin "BaseException.__getattribute__")) = false := by cases expr <;> rfl
  have n2 : (Value.builtin "BaseException.__getattribute__" == Value.builtin "object.__getattribute__") = false := by decide +kernel
  have n1 : (onTheHeap (Value.ref C) && Value.builtin "BaseException.__getattribute__" == Value.builtin "object.__getattribute__") = false := by rw [n2]; rfl
  unfold getAttr getAttrBy
  refine wpAny_bind (wpAny_mkText (wpAny_holding (wpAny_bind (T0.at (wpAny_bind (T1.at ?_))))))
  show wpAny _ _ (if (onTheHeap (Value.ref C) && Value.builtin "BaseException.__getattribute__" == Value.builtin "object.__getattribute__") = true then _ else _) _ _ _
  rw [n1, if_neg Bool.false_ne_true]
  unfold getAttrByItsOwn hookBefore
  refine wpAny_bind ?_
  rw [if_pos (show onTheHeap (Value.ref C) = true from rfl)]
  refine T2.at ?_
  refine wpAny_bind (wpAny_attempt (wpAny_holding ?_))
  unfold callGetattribute
  rw [n0, if_neg Bool.false_ne_true]
  unfold boundAndCalled
  rw [PySem.F.excAttr_ValueError.ga.bind (.ref x)]
  refine wpAny_bind (wpAny_pure ?_)
  show wpAny _ _ (call (.builtin "BaseException.__getattribute__") [.ref x, .str "__class__" t]) _ _ _
  refine wpAny_call (codeAny_call_builtin PySem.F.excAttr_ValueError.ga.plain PySem.F.entry_bexc_ga ?_)
  refine @PySem.W.check_slot (model prog w) _ _ ⟨hp, g, d, t + 1, os⟩ "BaseException.__getattribute__" "BaseException" "__getattribute__" (.ref x) [.str "__class__" t] [] _ (by decide +kernel) (by decide +kernel) isB (PySem.F.args_bexc_ga (.ref x) (.str "__class__" t)) ?_
  unfold Builtin.«object.__getattribute__»
  refine wpAny_bind (wpAny_of_eq (a := ((Value.ref x : Value), [Value.str "__class__" t])) (by first | rfl | (simp only [slotArgs]; rfl)) ?_)
  refine wpAny_bind (wpAny_pure (wpAny_bind (T0.at (wpAny_bind (T3.at ?_)))))
  refine wpAny_bind (wpAny_holding (wpAny_call (class_get (s := ⟨hp, g, d, t + 1, os⟩) (ox := ox) (od := od) X I hm ?_)))
  refine wpAny_pure ?_
  show wpAny _ _ (handedOut (.ref C)) _ _ _
  rw [handedOut_of (show handedIn (.ref C) = true from rfl)]
  first | exact wpAny_pure h | exact wpAny_pure (wpAny_pure h)
end
section
open PySem.W PySem.Calls Builtin Builtin.ObjectAttr Builtin.Getset_descriptor
variable {prog : Program} {w : World} {A : Around} {E : Value → Shared → Prop} {s : Shared} {K : PySem.W.Frag} {R : Result → Shared → Prop} {C : Addr} {o : Obj} {nm : Str} {tn : Tok}
/-- type.__name__ of an own class whose name was kept when it was made -/
theorem own_name_get {tp : Value} (ho : s.heap.get? C = some o) (hc : o.cls = .type "type") (hs : o.slots[2]? = some (some (.str nm tn))) (hi : Looks (model prog w) s.heap (isInstance (.ref C) (.type "type")) true)
    (h : R (.ok (.ret (.str nm tn))) s) :
    codeAny (model prog w) A (.call (.builtin "getset_descriptor.__get__") ⟨[.builtin "type.__name__", .ref C, tp], []⟩) R s := by
  obtain ⟨hh, g, dr, t, os⟩ := s
  refine codeAny_call_builtin KF.slot_gs.plain KF.entry_gs (KF.slot_gs.check _ _ _ _ _ _ _ _ ktyn_type (KF.args_gs _ _ _) ?_)
  unfold Builtin.«getset_descriptor.__get__» descrGet
  rw [PySem.W.dga_obj]
  refine wpAny_bind (wpAny_pure ?_)
  unfold descrGetter descrCheckInstance descrNameAndClass
  simp only [ktyn_owner]
  repeat lk
  refine ⟨Code.quiet_builtin _ (by decide +kernel), codeAny_builtin ktyn_entry ?_⟩
  unfold Builtin.«type.__name__»
  show wpAny _ _ (keptObject (.ref C) 2 "__name__" _) _ _ _
  unfold keptObject PySem.slotAt
  dsimp only at ho
  refine wpAny_bind (wpAny_bind (wpAny_loadPart ho (wpAny_pure ?_)))
  rw [hs]
  exact wpAny_pure h
theorem own_name {expr : Bool} {Q : Value → Shared → Prop} (X : K.In s.heap) (hl : K.lookup C = some o) (hc : o.cls = .type "type") (hs : o.slots[2]? = some (some (.str nm tn))) (hC : PySem.W.nsIn K cStatics "thirdparty.any" = some none)
    (hty : PySem.W.typeIn K (.ref C) = some (.type "type")) (e : findCls K (.ref C) (.type "type") "__name__" = some (.get (.builtin "getset_descriptor.__get__") (.builtin "type.__name__") (.ref C) (.type "type")))
    (h : ∀ u, Q (.str nm tn) { s with toks := u }) : wpAny (model prog w) A (getAttr (.ref C) "__name__" expr) Q E s := by
  have T0 : Looks (model prog w) s.heap (typeOf (.ref C)) (.type "type") := looks_typeIn X hty
  have TI : Looks (model prog w) s.heap (isInstance (.ref C) (.type "type")) true := T0.andThen (looks_subIn X (show subIn K (.type "type") (.type "type") = some true by rfl))
  have TO : Looks (model prog w) s.heap (opaqueClassAbove (.ref C)) none := looks_opaque X hC
  refine cls_open X TO T0 type_tga (looks_hook X (r := none) (by rfl)) (by rfl) e ?_
  show wpAny _ _ (do ret (← holding [Value.builtin "type.__name__"] (call (.builtin "getset_descriptor.__get__") [.builtin "type.__name__", .ref C, .type "type"]))) _ _ _
  refine wpAny_bind (wpAny_holding (wpAny_call (own_name_get (s := { s with toks := s.toks + 1 }) (X _ _ hl) hc hs TI ?_)))
  exact wpAny_pure (handed_on rfl (h _))
end
/-- what the written part says of an own exception class whose instances tell their class's name -/
structure ErrN (K : PySem.W.Frag) (C : Addr) (nm : Str) : Prop where
  ec : ExcC K C
  ob : ∃ (o : Obj) (t : Tok), K.lookup C = some o ∧ o.cls = .type "type" ∧ o.slots[2]? = some (some (.str nm t))
  op : PySem.W.nsIn K cStatics "thirdparty.any" = some none
  ty : PySem.W.typeIn K (.ref C) = some (.type "type")
  fc : PySem.W.findCls K (.ref C) (.type "type") "__name__" = some (.get (.builtin "getset_descriptor.__get__") (.builtin "type.__name__") (.ref C) (.type "type"))
/-- e.__class__.__name__, e an exception that is being made -/
def tErrN (K : PySem.W.Frag) (te : TE) : TE := fun σ H Q => te σ H fun x H1 => ∃ (a C dd : Addr) (nm : Str) (fs : List (Str × V)), x = .ref a ∧ H1 a = some (exo a C (some dd)) ∧ H1 dd = some (exd dd fs) ∧ ErrN K C nm ∧ Q (.str nm) H1
theorem pe_errN {X : Cx} {e : Expr} {te : TE} {p1 p2 : Pos} (he : PE X e te) (hb : attributeBase e "__class__" X.env (eval e X.env) = eval e X.env := by rfl)
    (hb2 : attributeBase (.Attribute e "__class__" p1) "__name__" X.env (eval (.Attribute e "__class__" p1) X.env) = eval (.Attribute e "__class__" p1) X.env := by rfl) :
    PE X (.Attribute (.Attribute e "__class__" p1) "__name__" p2) (tErrN X.K te) := by
  refine ⟨fun pins s σ H Q I h => ?_⟩
  refine attr_of hb2 (attr_of hb (thn (he.run pins s σ H _ I h) fun u s1 hh => ?_))
  obtain ⟨x, H1, I1, rx, a, C, dd, nm, fs, ex, ea, ed, N, q⟩ := hh
  subst ex
  obtain rfl : u = Value.ref a := rx
  obtain ⟨t1, ho⟩ := exo_at I1.hok ea
  obtain ⟨mA, hns, rel⟩ := exd_at I1.hok ed
  obtain ⟨oD, _, _, hoD, _, _⟩ := hns.count (within_of rel)
  obtain ⟨o, t, hl, hc, hs⟩ := N.ob
  have J : PySem.W.InstAt s1.heap a _ C (some oD) := ⟨ho, rfl, rfl, hoD⟩
  have ff : PySem.W.findObj X.K C (some oD) "__class__" = some (.bind (.builtin "getset_descriptor.__get__") (.builtin "object.__class__")) :=
    PySem.W.findObj_data (by obtain ⟨cd, hc, _⟩ := PySem.W.any_some N.ec.hd; rw [hc]; rfl) N.ec.ha N.ec.hn N.ec.ht
  refine err_class I1.kIn J N.ec.hg N.ec.hk N.ec.hs ff N.ec.hm ?_
  exact own_name (I1.tok _).kIn hl hc hs N.op N.ty N.fc fun u => ⟨.str nm, H1, I1.tok _, ⟨t, rfl⟩, q⟩
/-- .. of one that has no dict yet -/
def tErrN0 (K : PySem.W.Frag) (te : TE) : TE := fun σ H Q => te σ H fun x H1 => ∃ (a C : Addr) (nm : Str), x = .ref a ∧ H1 a = some (exo a C none) ∧ ErrN K C nm ∧ Q (.str nm) H1
theorem pe_errN0 {X : Cx} {e : Expr} {te : TE} {p1 p2 : Pos} (he : PE X e te) (hb : attributeBase e "__class__" X.env (eval e X.env) = eval e X.env := by rfl)
    (hb2 : attributeBase (.Attribute e "__class__" p1) "__name__" X.env (eval (.Attribute e "__class__" p1) X.env) = eval (.Attribute e "__class__" p1) X.env := by rfl) :
    PE X (.Attribute (.Attribute e "__class__" p1) "__name__" p2) (tErrN0 X.K te) := by
  refine ⟨fun pins s σ H Q I h => ?_⟩
  refine attr_of hb2 (attr_of hb (thn (he.run pins s σ H _ I h) fun u s1 hh => ?_))
  obtain ⟨x, H1, I1, rx, a, C, nm, ex, ea, N, q⟩ := hh
  subst ex
  obtain rfl : u = Value.ref a := rx
  obtain ⟨t1, ho⟩ := exo_at I1.hok ea
  obtain ⟨o, t, hl, hc, hs⟩ := N.ob
  have J : PySem.W.InstAt s1.heap a _ C none := ⟨ho, rfl, rfl, trivial⟩
  have ff : PySem.W.findObj X.K C none "__class__" = some (.bind (.builtin "getset_descriptor.__get__") (.builtin "object.__class__")) :=
    PySem.W.findObj_dataN (by obtain ⟨cd, hc, _⟩ := PySem.W.any_some N.ec.hd; rw [hc]; rfl) N.ec.ha N.ec.hn N.ec.ht
  refine err_class I1.kIn J N.ec.hg N.ec.hk N.ec.hs ff N.ec.hm ?_
  exact own_name (I1.tok _).kIn hl hc hs N.op N.ty N.fc fun u => ⟨.str nm, H1, I1.tok _, ⟨t, rfl⟩, q⟩
end Tw
namespace Tw
open PySem PySem.Spec PyProof.Rows L2
/-! ### {x!r} of nested data: some text of a bounded length, whatever is under way -/
section
open Builtin Builtin.List
/-- repr(x) is some text of at most n signs; d: how deep it goes; h₀: what must stand -/
def RepN (prog : Program) (w : World) (h₀ : Heap) (d n : Nat) (x : Value) : Prop :=
  ∀ (base : Nat), base + n ≤ sizeLine → ∀ (A : Around) (E : Value → Shared → Prop) (s : Shared) (Q : Str → Shared → Prop), A.units + d < cLine → (∀ b o, h₀.get? b = some o → s.heap.get? b = some o) →
    (∀ (m : Str) (h' : Heap) (tk : Nat), m.length ≤ n → (∀ b o, s.heap.get? b = some o → h'.get? b = some o) → Q m { s with heap := h', toks := tk }) → wpAny (model prog w) A (pyReprUnder base x) Q E s
theorem RepN.of_is {prog : Program} {w : World} {h₀ : Heap} {d n : Nat} {x : Value} {t : Str} (h : ReprIs prog w x t) (hn : t.length ≤ n) : RepN prog w h₀ d n x :=
  fun base hb A E s Q _ _ hQ => h base (by omega) A E s Q fun tk => hQ t s.heap tk hn fun _ _ e => e
theorem RepN.mono {prog : Program} {w : World} {h₀ : Heap} {d d' n n' : Nat} {x : Value} (h : RepN prog w h₀ d n x) (hd : d ≤ d') (hn : n ≤ n') : RepN prog w h₀ d' n' x :=
  fun base hb A E s Q hu k hQ => h base (by omega) A E s Q (by omega) k fun m h' tk hm => hQ m h' tk (by omega)
/-- the signs of the items with their gaps -/
def cost (ns : List Nat) : Nat := (ns.map fun n => n + 2).sum
theorem cost_cons (n : Nat) (ns : List Nat) : cost (n :: ns) = n + 2 + cost ns := by simp [cost]
theorem cost_take_succ {ns : List Nat} {i n : Nat} (h : ns[i]? = some n) : cost (ns.take (i + 1)) = cost (ns.take i) + (n + 2) := by
  unfold cost
  rw [List.take_add_one, h, List.map_append, List.sum_append]
  simp
theorem cost_take_le (ns : List Nat) (i : Nat) : cost (ns.take i) ≤ cost ns := by
  have e : cost ns = cost (ns.take i) + cost (ns.drop i) := by
    unfold cost
    rw [← List.sum_append, ← List.map_append, List.take_append_drop]
  omega
theorem two_le_cost (ns : List Nat) : 2 * ns.length ≤ cost ns := by
  induction ns with
  | nil => exact Nat.zero_le _
  | cons n ns ih =>
    rw [cost_cons, List.length_cons]
    omega
theorem listText_le : ∀ ts : List Str, (listText ts).length ≤ piled ts + 2
  | [] => by decide +kernel
  | t :: r => by
    have h := textFrom_length_pos r 1 (("[" : Str) ++ (if (0 : Nat) > 0 then ", " else "" : String) ++ t) (Nat.succ_pos 0)
    have e : ((("[" : Str) ++ (if (0 : Nat) > 0 then ", " else "" : String) ++ t)).length = 1 + t.length := by
      rw [strLen_append, strLen_append]; rfl
    have hX : (listText (t :: r)).length = (textFrom 0 "[" (t :: r)).length + 1 := by
      show (textFrom 0 "[" (t :: r) ++ "]").length = _
      rw [strLen_append]; rfl
    have hY : (textFrom 0 "[" (t :: r)).length = (textFrom 1 (("[" : Str) ++ (if (0 : Nat) > 0 then ", " else "" : String) ++ t) r).length := rfl
    rw [hX, hY, h, e, piled_cons]; omega
theorem piled_snoc (ts : List Str) (t : Str) : piled (ts ++ [t]) = piled ts + (t.length + 2) := by
  rw [piled_append, piled_cons, piled_nil]
section
variable {prog : Program} {w : World} {A : Around} {R : Result → Shared → Prop}
theorem rep_loop {a P : Addr} (hne : a ≠ P) {items : Array Value} {ns : List Nat} {h₀ : Heap} {d base : Nat} (hu : A.units + (d + 1) < cLine) (hPf : h₀.get? P = none) (hlen : ns.length = items.size)
    (hT : ∀ (i : Nat) (x : Value), items[i]? = some x → ∃ n, ns[i]? = some n ∧ RepN prog w h₀ d n x) (hsz : base + (cost ns + 2) ≤ sizeLine) :
    ∀ (k i : Nat) (s : Shared) (oa : Obj) (na : Nat) (acc : Array Value) (c : Nat) (done : List (Str × Tok)), items.size - i = k → i ≤ items.size → (∀ b o, h₀.get? b = some o → s.heap.get? b = some o) →
    s.heap.get? a = some oa → oa.data = .seq items na →
    s.heap.get? P = some { cls := .type "list", dict := none, data := .seq acc c, slots := #[] } → acc.toList = strValues done → done.length = i → piled (done.map (·.1)) ≤ cost (ns.take i) →
    (∀ m h' u tk, m.length ≤ cost ns + 2 → (∀ b o, b ≠ P → s.heap.get? b = some o → h'.get? b = some o) → R (.ok (.ret (.str m u))) { s with heap := h', toks := tk }) →
    codeAny (model prog w) A (.builtin "list.__repr__.loop" ⟨[.ref a, rawInt i, .ref P, rawInt ((base + piled (done.map (·.1)) : Nat) : Int)], []⟩) R s := by
  have hl2 := two_le_cost ns
  intro k
  induction k with
  | zero =>
    intro i s oa na acc c done hk hi hk0 ha hda hP hacc hdl hdone hR
    have hin : i = items.size := by omega
    refine codeAny_builtin F.entry_list_repr_loop ?_
    show wpAny _ _ («list.__repr__.loop» ⟨[.ref a, .int i 0, .ref P, .int ((base + piled (done.map (·.1)) : Nat) : Int) 0], []⟩) _ _ s
    rw [repr_loop_tree]
    refine wpAny_bind (wpAny_listItems ha hda ?_)
    have hnone : items[(i : Int).toNat]? = none := by simp [hin]
    simp only [hnone]
    unfold reprEnd
    refine wpAny_bind (wpAny_listItems hP rfl ?_)
    rw [hacc, repr_fold]
    refine wpAny_bind (wpAny_pure ?_)
    have hc : cost (ns.take i) ≤ cost ns := cost_take_le ns i
    have ht := listText_le (done.map (·.1))
    refine wpAny_bind (wpAny_mkStr (wpAny_pure ?_) (show (listText (done.map (·.1))).length ≤ sizeLine by omega))
    exact hR (listText (done.map (·.1))) s.heap _ _ (by omega) (fun _ _ _ e => e)
  | succ k ih =>
    intro i s oa na acc c done hk hi hk0 ha hda hP hacc hdl hdone hR
    have hlt : i < items.size := by omega
    obtain ⟨n, hn, hrep⟩ := hT i items[i] (by simp [hlt])
    have hp1 := cost_take_succ hn
    have hp2 := cost_take_le ns (i + 1)
    refine codeAny_builtin F.entry_list_repr_loop ?_
    show wpAny _ _ («list.__repr__.loop» ⟨[.ref a, .int i 0, .ref P, .int ((base + piled (done.map (·.1)) : Nat) : Int) 0], []⟩) _ _ s
    rw [repr_loop_tree]
    refine wpAny_bind (wpAny_listItems ha hda ?_)
    have hsome : items[(i : Int).toNat]? = some items[i] := by simp [hlt]
    simp only [hsome]
    rw [Int.toNat_natCast]
    refine wpAny_bind (wpAny_holding (hrep (base + piled (done.map (·.1)) + 1) (by omega) _ _ _ _ (by rw [units_under_list_loop]; omega) hk0 fun t h' tk htl hkp => ?_))
    refine wpAny_bind (wpAny_mkStr ?_ (by omega))
    refine wpAny_bind ?_
    show wpAny _ _ (updateSeq P _) _ _ _
    have hasz : acc.size ≤ sizeLine := by
      have e1 : acc.toList.length = acc.size := by simp
      have e2 : (strValues done).length = done.length := by simp [strValues]
      rw [hacc] at e1; omega
    refine wpAny_updateSeq (hkp _ _ hP) rfl (wpAny_pure ⟨F.quiet_list_repr_loop _, ?_⟩) hasz
    have e1 : ((i : Int) + 1) = ((i + 1 : Nat) : Int) := by omega
    have e3 : (done ++ [(t, tk)]).map (·.1) = done.map (·.1) ++ [t] := by simp
    have e2 : base + piled (done.map (·.1)) + (t.length + 2) = base + piled ((done ++ [(t, tk)]).map (·.1)) := by rw [e3, piled_snoc]; omega
    rw [e1, e2]
    refine ih (i + 1) _ oa na (acc.push (.str t tk)) _ (done ++ [(t, tk)]) (by omega) hlt (fun b o e => (Heap.get?_update_other _ _ (fun h : P = b => by rw [← h, hPf] at e; cases e)).trans (hkp _ _ (hk0 _ _ e))) ((Heap.get?_update_other _ _ (fun h : P = a => hne h.symm)).trans (hkp _ _ ha)) hda
      (Heap.get?_update_self _ (hkp _ _ hP) rfl) (by simp [hacc, strValues]) (by simp [hdl]) (by rw [e3, piled_snoc]; omega) fun m h'' u tk' hm hh => ?_
    exact hR m h'' u tk' hm fun b o hb e => hh b o hb ((Heap.get?_update_other _ _ (fun h : P = b => hb h.symm)).trans (hkp _ _ e))
theorem rep_listAt {h₀ : Heap} {d : Nat} {a : Addr} {oa : Obj} {items : Array Value} {na : Nat} {ns : List Nat} {s : Shared} {base : Nat}
    (ha : h₀.get? a = some oa) (hda : oa.data = .seq items na) (hlen : ns.length = items.size) (hT : ∀ (i : Nat) (y : Value), items[i]? = some y → ∃ n, ns[i]? = some n ∧ RepN prog w h₀ d n y)
    (hu : A.units + (d + 1) < cLine) (hk0 : ∀ b o, h₀.get? b = some o → s.heap.get? b = some o) (hsz : base + (cost ns + 5) ≤ sizeLine)
    (hR : ∀ m h' u tk, m.length ≤ cost ns + 5 → (∀ b o, s.heap.get? b = some o → h'.get? b = some o) → R (.ok (.ret (.str m u))) { s with heap := h', toks := tk }) :
    wpAny (model prog w) A.in1 (Builtin.listReprAt base ⟨[.ref a], []⟩) (fun fin s' => match fin with | .done f => R (.ok f) s' | .again c' => c'.quiet = true ∧ codeAny (model prog w) A c' R s') (fun e s' => R (.error e) s') s := by
  have hPf : h₀.get? s.heap.objs.size = none := by
    cases e : h₀.get? s.heap.objs.size with
    | none => rfl
    | some o => exact absurd (Heap.lt_size (hk0 _ _ e)) (Nat.lt_irrefl _)
  unfold Builtin.listReprAt
  refine wpAny_bind (wpAny_of_eq (a := ((Value.ref a : Value), ([] : List Value))) (by first | rfl | (simp only [slotArgs]; rfl)) ?_)
  refine wpAny_bind (wpAny_listItems (hk0 _ _ ha) hda ?_)
  by_cases he : items.isEmpty = true
  · rw [if_pos he]
    refine wpAny_bind (wpAny_rule (wpAny_bind (wpAny_mkStr (wpAny_pure ?_) (by decide +kernel))))
    exact hR "[]" s.heap _ _ (Nat.le_trans (show ("[]" : Str).length ≤ 5 by decide +kernel) (Nat.le_add_left _ _)) (fun _ _ e => e)
  · rw [if_neg he]
    refine wpAny_bind (wpAny_stack_any fun st => ?_)
    dsimp only
    split
    · refine wpAny_bind (wpAny_rule (wpAny_bind (wpAny_mkStr (wpAny_pure ?_) (by decide +kernel))))
      exact hR "[...]" s.heap _ _ (Nat.le_trans (show ("[...]" : Str).length ≤ 5 by decide +kernel) (Nat.le_add_left _ _)) (fun _ _ e => e)
    · refine wpAny_bind (m := newList []) (wpAny_newObj_type ?_)
      refine wpAny_pure ⟨F.quiet_list_repr_loop _, ?_⟩
      refine rep_loop (P := s.heap.objs.size) (base := base) (Nat.ne_of_lt (Heap.lt_size (hk0 _ _ ha))) hu hPf hlen hT (by omega) _ 0 _ oa na #[] _ [] rfl (Nat.zero_le _)
        (fun b o e => Heap.get?_push_of_some _ (hk0 _ _ e)) (Heap.get?_push_of_some _ (hk0 _ _ ha)) hda (Heap.get?_push_size _ rfl) rfl rfl (by simp [piled, cost]) fun m h' u tk hm hk => ?_
      exact hR m h' u tk (by omega) fun b o e => hk b o (Nat.ne_of_lt (Heap.lt_size e)) (Heap.get?_push_of_some _ e)
/-! a tuple -/
theorem rep_tupFold {E : Value → Shared → Prop} {h₀ : Heap} {d : Nat} (hu : A.units + d < cLine) : ∀ (l : List Value) (ns : List Nat) (acc : Array Str) (n : Nat) (s : Shared) (Q : (Array Str × Nat) → Shared → Prop), ns.length = l.length → (∀ (i : Nat) (y : Value), l[i]? = some y → ∃ n, ns[i]? = some n ∧ RepN prog w h₀ d n y) →
    n + cost ns ≤ sizeLine → (∀ b o, h₀.get? b = some o → s.heap.get? b = some o) → (∀ (ts : List Str) (h' : Heap) (tk : Nat), ts.length = l.length → piled ts ≤ cost ns → (∀ b o, s.heap.get? b = some o → h'.get? b = some o) → Q ⟨acc ++ ts.toArray, n + piled ts⟩ { s with heap := h', toks := tk }) →
    wpAny (model prog w) A (forIn l (⟨acc, n⟩ : (Array Str × Nat)) tupBody) Q E s := by
  intro l
  induction l with
  | nil =>
    intro ns acc n s Q hl hT _ _ h
    have h0 := h [] s.heap s.toks rfl (Nat.zero_le _) fun _ _ e => e
    simp only [List.forIn_nil]
    exact wpAny_pure (by simpa [piled] using h0)
  | cons x l ih =>
    intro ns acc n s Q hl hT hn hk0 h
    cases ns with
    | nil => cases hl
    | cons n1 ns =>
      obtain ⟨n1', e1, hx⟩ := hT 0 x rfl
      obtain rfl : n1 = n1' := Option.some.inj e1
      rw [cost_cons] at hn
      rw [List.forIn_cons]
      refine wpAny_bind (wpAny_bind (hx (n + 1) (by omega) _ _ _ _ hu hk0 fun t h' tk ht hkp => wpAny_pure ?_))
      refine ih ns (acc.push t) (n + (t.length + 2)) _ Q (by simpa using hl) (fun i y hi => hT (i + 1) y hi) (by omega) (fun b o e => hkp _ _ (hk0 _ _ e)) fun ts h'' tk' hts hpt hk2 => ?_
      have h1 := h (t :: ts) h'' tk' (by simp [hts]) (by rw [piled_cons, cost_cons]; omega) fun b o e => hk2 _ _ (hkp _ _ e)
      have e : n + piled (t :: ts) = n + (t.length + 2) + piled ts := by rw [piled_cons]; omega
      rw [e] at h1
      simpa using h1
theorem rep_tupAt {E : Value → Shared → Prop} {h₀ : Heap} {d : Nat} {a : Addr} {o : Obj} {items : Array Value} {n : Nat} {ns : List Nat} {s : Shared} {base : Nat} {Q : Fin → Shared → Prop}
    (ha : h₀.get? a = some o) (hd : o.data = .seq items n) (hlen : ns.length = items.size) (hT : ∀ (i : Nat) (y : Value), items[i]? = some y → ∃ n, ns[i]? = some n ∧ RepN prog w h₀ d n y)
    (hu : A.units + d < cLine) (hk0 : ∀ b o, h₀.get? b = some o → s.heap.get? b = some o) (hsz : base + (cost ns + 5) ≤ sizeLine)
    (hQ : ∀ m h' u tk, m.length ≤ cost ns + 5 → (∀ b o, s.heap.get? b = some o → h'.get? b = some o) → Q (.done (.ret (.str m u))) { s with heap := h', toks := tk }) :
    wpAny (model prog w) A (Builtin.tupleReprAt base ⟨[.ref a], []⟩) Q E s := by
  rw [tuple_repr_tree]
  refine wpAny_bind (fmt_underWay fun b => ?_)
  cases b with
  | true =>
    refine PySem.W.KFB.if_so rfl ?_
    refine wpAny_bind (wpAny_rule (wpAny_bind (wpAny_mkStr (wpAny_pure ?_) (by decide +kernel))))
    exact hQ "(...)" s.heap _ _ (Nat.le_trans fmt_way (Nat.le_add_left _ _)) (fun _ _ e => e)
  | false =>
    refine PySem.W.KFB.if_not rfl ?_
    unfold tupleReprRest Builtin.Tuple.tupleItemsOf
    refine wpAny_bind (wpAny_bind (wpAny_seqItems (hk0 _ _ ha) hd (wpAny_pure ?_)))
    rw [← Array.forIn_toList]
    refine wpAny_bind (rep_tupFold hu _ ns _ _ _ _ (by simpa using hlen) (fun i y hi => hT i y (by simpa using hi)) (by omega) hk0 fun ts h' tk hts hpt hkp => ?_)
    have hlen2 : ts.length = items.size := by simpa using hts
    have htx := fmt_text ts
    refine wpAny_bind (wpAny_mkStr (wpAny_pure ?_) (by
      have z : (tupleText ts).length ≤ sizeLine := by omega
      simpa [tupleText, hlen2] using z))
    have h1 := hQ (tupleText ts) h' tk (tk + 1) (by omega) hkp
    simpa [tupleText, hlen2] using h1
end
section
variable {prog : Program} {w : World} {A : Around} {E : Value → Shared → Prop} {s : Shared}
/-- repr of a list, of a tuple, as an item and at the top -/
theorem RepN.list {h₀ : Heap} {d : Nat} {a : Addr} {oa : Obj} {items : Array Value} {na : Nat} {ns : List Nat} (ha : h₀.get? a = some oa) (hc : oa.cls = .type "list") (hda : oa.data = .seq items na) (hlen : ns.length = items.size)
    (hT : ∀ (i : Nat) (y : Value), items[i]? = some y → ∃ n, ns[i]? = some n ∧ RepN prog w h₀ d n y) : RepN prog w h₀ (d + 1) (cost ns + 5) (.ref a) := by
  intro base hb A E s Q hu hk0 hQ
  refine wpAny_pyReprUnder_ref (by omega) (wpAny_pyReprObjUnder_twin (twin := "list.__repr__.under") ⟨oa, hk0 _ _ ha, hc⟩ F.slot_list_repr.toG rfl (by omega) ?_)
  exact call_twin_plain F.plain_list_repr_under F.entry_list_repr_under F.check_list_repr_under ⟨oa, hk0 _ _ ha, hc⟩ F.slot_list_repr.toG (F.args_list_repr_1 _)
    (rep_listAt (R := callEnd _ E) ha hda hlen hT hu hk0 hb fun m h' u tk hm hk => ⟨⟨m, u, rfl⟩, ⟨m, u, rfl, hQ m h' tk hm hk⟩⟩)
theorem RepN.tuple {h₀ : Heap} {d : Nat} {a : Addr} {oa : Obj} {items : Array Value} {na : Nat} {ns : List Nat} (ha : h₀.get? a = some oa) (hc : oa.cls = .type "tuple") (hda : oa.data = .seq items na) (hlen : ns.length = items.size)
    (hT : ∀ (i : Nat) (y : Value), items[i]? = some y → ∃ n, ns[i]? = some n ∧ RepN prog w h₀ d n y) : RepN prog w h₀ (d + 1) (cost ns + 5) (.ref a) := by
  intro base hb A E s Q hu hk0 hQ
  refine wpAny_pyReprUnder_ref (by omega) (wpAny_pyReprObjUnder_twin (twin := "tuple.__repr__.under") ⟨oa, hk0 _ _ ha, hc⟩ F.slot_tuple_repr rfl (by omega) ?_)
  refine call_twin_own (F.quiet_tuple_repr_under _) F.entry_tuple_repr_under F.check_tuple_repr_under ⟨oa, hk0 _ _ ha, hc⟩ F.slot_tuple_repr (F.args_tuple_repr_1 _) (wpOwn_of_wpAny ?_)
  exact rep_tupAt ha hda hlen hT (by rw [units_under_tuple_repr_under]; omega) hk0 hb fun m h' u tk hm hk => ⟨⟨m, u, rfl⟩, ⟨m, u, rfl, hQ m h' tk hm hk⟩⟩
theorem repObj_list {h₀ : Heap} {d : Nat} {a : Addr} {oa : Obj} {items : Array Value} {na : Nat} {ns : List Nat} {Q : Value → Shared → Prop} (ha : h₀.get? a = some oa) (hc : oa.cls = .type "list") (hda : oa.data = .seq items na) (hlen : ns.length = items.size)
    (hT : ∀ (i : Nat) (y : Value), items[i]? = some y → ∃ n, ns[i]? = some n ∧ RepN prog w h₀ d n y) (hu : A.units + (d + 1) < cLine) (hk0 : ∀ b o, h₀.get? b = some o → s.heap.get? b = some o) (hsz : cost ns + 5 ≤ sizeLine)
    (hQ : ∀ m h' u tk, m.length ≤ cost ns + 5 → (∀ b o, s.heap.get? b = some o → h'.get? b = some o) → Q (.str m u) { s with heap := h', toks := tk }) : wpAny (model prog w) A (pyReprObj (.ref a)) Q E s := by
  have hTy : s.TypeIs (.ref a) "list" := ⟨oa, hk0 _ _ ha, hc⟩
  unfold pyReprObj
  refine wpAny_bind (wpAny_cRoomFor (by omega) ?_)
  refine wpAny_bind (wpAny_specialOf (name := Str.ofString "__repr__") hTy F.slot_list_repr.lookup ?_)
  refine wpAny_bind (m := callSpecialIfBound? (.ref a) (Str.ofString "__repr__")) (wpAny_callSpecialIfBound?_slot (name := Str.ofString "__repr__") hTy F.slot_list_repr ?_)
  refine wpAny_call (codeAny_call_builtin F.slot_list_repr.plain F.entry_list_repr (F.slot_list_repr.check _ _ _ _ _ _ _ _ hTy (F.args_list_repr_1 _) ?_))
  refine rep_listAt (base := 0) (R := callEnd _ E) ha hda hlen hT hu hk0 (by omega) fun m h' u tk hm hk => ?_
  exact wpAny_bind (wpAny_isInstance (T := "str") (b := true) rfl isSubtype_str_str (wpAny_pure (hQ m h' u tk hm hk)))
theorem repObj_tuple {h₀ : Heap} {d : Nat} {a : Addr} {oa : Obj} {items : Array Value} {na : Nat} {ns : List Nat} {Q : Value → Shared → Prop} (ha : h₀.get? a = some oa) (hc : oa.cls = .type "tuple") (hda : oa.data = .seq items na) (hlen : ns.length = items.size)
    (hT : ∀ (i : Nat) (y : Value), items[i]? = some y → ∃ n, ns[i]? = some n ∧ RepN prog w h₀ d n y) (hu : A.units + (d + 1) < cLine) (hk0 : ∀ b o, h₀.get? b = some o → s.heap.get? b = some o) (hsz : cost ns + 5 ≤ sizeLine)
    (hQ : ∀ m h' u tk, m.length ≤ cost ns + 5 → (∀ b o, s.heap.get? b = some o → h'.get? b = some o) → Q (.str m u) { s with heap := h', toks := tk }) : wpAny (model prog w) A (pyReprObj (.ref a)) Q E s := by
  have hTy : s.TypeIs (.ref a) "tuple" := ⟨oa, hk0 _ _ ha, hc⟩
  unfold pyReprObj
  refine wpAny_bind (wpAny_cRoomFor (by omega) ?_)
  refine wpAny_bind (wpAny_specialOf (name := Str.ofString "__repr__") hTy F.slot_tuple_repr.lookup ?_)
  refine wpAny_bind (m := callSpecialIfBound? (.ref a) (Str.ofString "__repr__")) (wpAny_callSpecialIfBound?_slotG (name := Str.ofString "__repr__") hTy F.slot_tuple_repr ?_)
  refine wpAny_call (codeAny_call_builtin_own (Code.quiet_builtin _ (by decide +kernel)) F.entry_tuple_repr (F.slot_tuple_repr.check _ _ _ _ _ _ _ _ hTy (F.args_tuple_repr_1 _) (wpOwn_of_wpAny ?_)))
  show wpAny _ _ (Builtin.tupleReprAt 0 ⟨[.ref a], []⟩) _ _ s
  refine rep_tupAt (base := 0) ha hda hlen hT (by rw [units_under_tuple_repr]; omega) hk0 (by omega) fun m h' u tk hm hk => ?_
  exact wpAny_bind (wpAny_isInstance (T := "str") (b := true) rfl isSubtype_str_str (wpAny_pure (hQ m h' u tk hm hk)))
end
end
end Tw
namespace Tw
open PySem PySem.Spec PyProof.Rows L2
/-- the abstract item of a listed value -/
theorem back_at : ∀ {xs : List V} {us : List Value} {i : Nat} {u : Value}, Vals xs us → us[i]? = some u → ∃ x, xs[i]? = some x ∧ L2.RelV x u
  | _, _, _, _, .nil, e => by simp at e
  | _, _, 0, _, .cons r _, e => by simp at e; subst e; exact ⟨_, rfl, r⟩
  | _, _, i + 1, u, .cons _ t, e => by
    obtain ⟨x, h1, h2⟩ := back_at (i := i) (u := u) t (by simpa using e)
    exact ⟨x, by simpa using h1, h2⟩
/-! ### data that an error may tell: how deep, how many signs -/
def GoodD : Nat → PyData → Nat → Prop
  | _, .none, c => 4 ≤ c
  | _, .bool _, c => 5 ≤ c
  | _, .int i, c => i.natAbs.log2 < 1920 ∧ 1930 ≤ c
  | _, .str x, c => (∀ k ∈ x.cps.toList, k < 16 ^ 8) ∧ 10 * x.length + 2 ≤ c
  | n + 1, .list ds, c => ds.length ≤ 1000 ∧ ∃ cs, cs.length = ds.length ∧ cost cs + 5 ≤ c ∧ ∀ (i : Nat) d k, ds[i]? = some d → cs[i]? = some k → GoodD n d k
  | n + 1, .tuple ds, c => ds.length ≤ 1000 ∧ ∃ cs, cs.length = ds.length ∧ cost cs + 5 ≤ c ∧ ∀ (i : Nat) d k, ds[i]? = some d → cs[i]? = some k → GoodD n d k
  | _, _, _ => False
theorem int_signs {a : Int} (h : a.natAbs.log2 < 1920) : (Str.ofString (toString a)).length ≤ 1930 := by
  have e := int_text_length_le (k := 1920) (by decide) h
  rw [PySem.ofString_length]; omega
theorem dpAll_at {K : PySem.W.Frag} {H : Hp} : ∀ {xs : List V} {ds : List PyData}, DpAll K H xs ds → xs.length = ds.length ∧ ∀ (i : Nat) x d, xs[i]? = some x → ds[i]? = some d → Dp K H x d
  | _, _, .nil => ⟨rfl, fun i x d h => by simp at h⟩
  | _, _, .cons h t => by
    obtain ⟨e, f⟩ := dpAll_at t
    refine ⟨by simp [e], fun i x d h1 h2 => ?_⟩
    cases i with
    | zero =>
      simp at h1 h2
      subst h1 h2
      exact h
    | succ i => exact f i x d (by simpa using h1) (by simpa using h2)
section
variable {X : Cx} {pins : List (Addr × Obj)} {σ : L2.St} {H : Hp} {s : Shared}
theorem rep_data (I : Inv X pins σ H s) : ∀ (n : Nat) (d : PyData) (c : Nat) (v : V) (u : Value), Dp X.K H v d → GoodD n d c → c ≤ 1000000 → L2.RelV v u → RepN X.prog X.w s.heap n c u := by
  have hsz : (1000000 : Nat) ≤ sizeLine := by rw [sizeLine_eq]; decide
  intro n
  induction n with
  | zero =>
    intro d c v u hd hg hc r
    cases hd with
    | non => cases r; exact RepN.of_is ReprIs.none (Nat.le_trans (by decide +kernel) (show 4 ≤ c from hg))
    | bl b => cases r; exact RepN.of_is (ReprIs.bool b) (Nat.le_trans (by cases b <;> decide +kernel) (show 5 ≤ c from hg))
    | int i => obtain ⟨t, rfl⟩ := r; exact RepN.of_is (ReprIs.int t hg.1) (Nat.le_trans (int_signs hg.1) hg.2)
    | str x =>
      obtain ⟨t, rfl⟩ := r
      have h1 := StrLaws.reprText_len x hg.1
      have h2 := hg.2
      exact RepN.of_is (ReprIs.str x t (by omega)) (by omega)
    | lst _ _ => exact hg.elim
    | tup _ _ => exact hg.elim
  | succ n ih =>
    intro d c v u hd hg hc r
    cases hd with
    | non => cases r; exact RepN.of_is ReprIs.none (Nat.le_trans (by decide +kernel) (show 4 ≤ c from hg))
    | bl b => cases r; exact RepN.of_is (ReprIs.bool b) (Nat.le_trans (by cases b <;> decide +kernel) (show 5 ≤ c from hg))
    | int i => obtain ⟨t, rfl⟩ := r; exact RepN.of_is (ReprIs.int t hg.1) (Nat.le_trans (int_signs hg.1) hg.2)
    | str x =>
      obtain ⟨t, rfl⟩ := r
      have h1 := StrLaws.reprText_len x hg.1
      have h2 := hg.2
      exact RepN.of_is (ReprIs.str x t (by omega)) (by omega)
    | lst hs ha =>
      cases r
      obtain ⟨_, cs, el, hcs, hall⟩ := hg
      obtain ⟨its, rv, ⟨⟨cls, dd, data, sls⟩, nn, ho, hcl, hdn, hdt⟩, hlen⟩ := I.list hs
      simp only at hcl hdt
      subst hcl hdt
      obtain ⟨e2, f2⟩ := dpAll_at ha
      have e3 := rv.length
      refine (RepN.list (ns := cs) ho rfl rfl (by rw [List.size_toArray]; omega) fun i y hy => ?_).mono (Nat.le_refl _) hcs
      have hy' : its[i]? = some y := by simpa using hy
      have hi := (List.getElem?_eq_some_iff.mp hy').1
      have hci : cs[i]? = some cs[i] := List.getElem?_eq_getElem (by omega)
      refine ⟨_, hci, ?_⟩
      obtain ⟨x, hx, rx⟩ := back_at rv hy'
      have hd2 := List.getElem?_eq_getElem (l := _) (show i < _ from by rw [← e2]; omega)
      have hcc : cs[i] ≤ 1000000 := by
        have := cost_take_succ hci
        have := cost_take_le cs (i + 1)
        omega
      exact ih _ _ x y (f2 i x _ hx hd2) (hall i _ _ hd2 hci) hcc rx
    | tup hs ha =>
      cases r
      obtain ⟨_, cs, el, hcs, hall⟩ := hg
      obtain ⟨its, rv, ⟨o, ho, hcl, nn, hdt⟩, hlen⟩ := I.tuple hs
      obtain ⟨e2, f2⟩ := dpAll_at ha
      have e3 := rv.length
      refine (RepN.tuple (ns := cs) ho hcl hdt (by rw [List.size_toArray]; omega) fun i y hy => ?_).mono (Nat.le_refl _) hcs
      have hy' : its[i]? = some y := by simpa using hy
      have hi := (List.getElem?_eq_some_iff.mp hy').1
      have hci : cs[i]? = some cs[i] := List.getElem?_eq_getElem (by omega)
      refine ⟨_, hci, ?_⟩
      obtain ⟨x, hx, rx⟩ := back_at rv hy'
      have hd2 := List.getElem?_eq_getElem (l := _) (show i < _ from by rw [← e2]; omega)
      have hcc : cs[i] ≤ 1000000 := by
        have := cost_take_succ hci
        have := cost_take_le cs (i + 1)
        omega
      exact ih _ _ x y (f2 i x _ hx hd2) (hall i _ _ hd2 hci) hcc rx
end
/-- {x!r}, x any data: some text -/
def tFmtD (K : PySem.W.Frag) (te : TE) : TE := fun σ H Q => te σ H fun x H1 => ∃ (n c : Nat) (d : PyData), Dp K H1 x d ∧ GoodD n d c ∧ n ≤ 60 ∧ c ≤ 1000000 ∧ ∀ m : Str, m.length ≤ c → Q (.str m) H1
theorem pe_fmtD {X : Cx} {e : Expr} {te : TE} {pos : Pos} {k : Nat} (hr : Room k X.A) (he : PE X e te) : PE X (.FormattedValue e 114 none pos) (tFmtD X.K te) := by
  refine ⟨fun pins s σ H Q I h => ?_⟩
  refine wpAny_FormattedValue_repr (thn (he.run pins s σ H _ I h) fun u s1 hv => ?_)
  obtain ⟨x, H1, I1, r1, n, c, d, hd, hg, hn, hc, q⟩ := hv
  have hsz : (1000000 : Nat) ≤ sizeLine := by rw [sizeLine_eq]; decide
  have hu := hr.units
  have fin : ∀ (m : Str) (h' : Heap) (u1 tk : Nat), m.length ≤ c → (∀ b o, s1.heap.get? b = some o → h'.get? b = some o) → wpAny (model X.prog X.w) X.A (formatField (.str m u1) Str.empty) (EP X pins σ Q) X.xe { s1 with heap := h', toks := tk } := fun m h' u1 tk hm hk =>
    wpAny_formatField_str ⟨.str m, H1, I1.kept hk, ⟨_, rfl⟩, q m hm⟩ ⟨.str m, H1, I1.kept hk, ⟨_, rfl⟩, q m hm⟩ (by omega)
  cases hd with
  | non =>
    cases r1
    have e4 : 4 ≤ c := by cases n <;> exact hg
    exact pyReprObj_none (fin "None" s1.heap _ _ (Nat.le_trans (by decide +kernel) e4) fun _ _ z => z)
  | bl b =>
    cases r1
    have e5 : 5 ≤ c := by cases n <;> exact hg
    exact pyReprObj_bool (fin _ s1.heap _ _ (Nat.le_trans (by cases b <;> decide +kernel) e5) fun _ _ z => z)
  | int i =>
    obtain ⟨t, rfl⟩ := r1
    have e6 : i.natAbs.log2 < 1920 ∧ 1930 ≤ c := by cases n <;> exact hg
    exact pyReprObj_int e6.1 (fin _ s1.heap _ _ (Nat.le_trans (int_signs e6.1) e6.2) fun _ _ z => z)
  | str y =>
    obtain ⟨t, rfl⟩ := r1
    have e6 : (∀ k ∈ y.cps.toList, k < 16 ^ 8) ∧ 10 * y.length + 2 ≤ c := by cases n <;> exact hg
    have h1 := StrLaws.reprText_len y e6.1
    exact pyReprObj_str (fin _ s1.heap _ _ (by omega) fun _ _ z => z) (by omega)
  | lst hs ha =>
    cases r1
    cases n with
    | zero => exact hg.elim
    | succ n =>
      obtain ⟨_, cs, el, hcs, hall⟩ := hg
      obtain ⟨its, rv, ⟨⟨cls, dd, data, sls⟩, nn, ho, hcl, hdn, hdt⟩, hlen⟩ := I1.list hs
      simp only at hcl hdt
      subst hcl hdt
      obtain ⟨e2, f2⟩ := dpAll_at ha
      have e3 := rv.length
      refine repObj_list (ns := cs) ho rfl rfl (by rw [List.size_toArray]; omega) (fun i y hy => ?_) (show X.A.units + (n + 1) < cLine by omega) (fun _ _ z => z) (by omega) fun m h' u1 tk hm hk => fin m h' u1 tk (by omega) hk
      have hy' : its[i]? = some y := by simpa using hy
      have hi := (List.getElem?_eq_some_iff.mp hy').1
      have hci : cs[i]? = some cs[i] := List.getElem?_eq_getElem (by omega)
      obtain ⟨x, hx, rx⟩ := back_at rv hy'
      have hd2 := List.getElem?_eq_getElem (l := _) (show i < _ from by rw [← e2]; omega)
      have hcc : cs[i] ≤ 1000000 := by
        have := cost_take_succ hci
        have := cost_take_le cs (i + 1)
        omega
      exact ⟨_, hci, rep_data I1 n _ _ x y (f2 i x _ hx hd2) (hall i _ _ hd2 hci) hcc rx⟩
  | tup hs ha =>
    cases r1
    cases n with
    | zero => exact hg.elim
    | succ n =>
      obtain ⟨_, cs, el, hcs, hall⟩ := hg
      obtain ⟨its, rv, ⟨o, ho, hcl, nn, hdt⟩, hlen⟩ := I1.tuple hs
      obtain ⟨e2, f2⟩ := dpAll_at ha
      have e3 := rv.length
      refine repObj_tuple (ns := cs) ho hcl hdt (by rw [List.size_toArray]; omega) (fun i y hy => ?_) (show X.A.units + (n + 1) < cLine by omega) (fun _ _ z => z) (by omega) fun m h' u1 tk hm hk => fin m h' u1 tk (by omega) hk
      have hy' : its[i]? = some y := by simpa using hy
      have hi := (List.getElem?_eq_some_iff.mp hy').1
      have hci : cs[i]? = some cs[i] := List.getElem?_eq_getElem (by omega)
      obtain ⟨x, hx, rx⟩ := back_at rv hy'
      have hd2 := List.getElem?_eq_getElem (l := _) (show i < _ from by rw [← e2]; omega)
      have hcc : cs[i] ≤ 1000000 := by
        have := cost_take_succ hci
        have := cost_take_le cs (i + 1)
        omega
      exact ⟨_, hci, rep_data I1 n _ _ x y (f2 i x _ hx hd2) (hall i _ _ hd2 hci) hcc rx⟩
end Tw
namespace Tw
open PySem PySem.Spec PyProof.Rows L2
/-! ### e.f of a caught own error, its class told by the reading -/
def tXfA (K : PySem.W.Frag) (a : Addr) (cls : Value) (d : Option Addr) (f : Str) (te : TE) : TE := fun σ H Q => te σ H fun x H1 => x = .ref a ∧ ∃ (C dd : Addr) (fs : List (Str × V)) (v : V), cls = .ref C ∧ XfC K C ∧ PySem.W.findIn K (.ref C) f = some none ∧ d = some dd ∧ H1 dd = some (.xd fs) ∧ fs.lookup f = some v ∧ Q v H1
theorem pe_xfA {X : Cx} {a : Addr} {oe : Obj} {cls : Value} {d : Option Addr} {pn : List (Addr × Obj)} {e : Expr} {te : TE} {pos : Pos} {n : Str}
    (hz : Zc cls d oe) (hf : ∃ vs, oe.data = .fields vs) (he : PE (X.suite a ((a, oe) :: pn)) e te) (hb : attributeBase e n X.env (eval e X.env) = eval e X.env := by rfl) :
    PE (X.suite a ((a, oe) :: pn)) (.Attribute e n pos) (tXfA X.K a cls d n te) := by
  refine ⟨fun pins s σ H Q I h => ?_⟩
  refine attr_of hb (thn (he.run pins s σ H _ I h) fun u s1 hh => ?_)
  obtain ⟨x, H1, I1, rx, ex, C, dd, fs, v, ec, T, hno, ed, ea, l, q⟩ := hh
  subst ex
  obtain rfl : u = Value.ref a := rx
  subst ec
  subst ed
  obtain ⟨ha, _⟩ := I1.pin (a, oe) (List.mem_append_left _ List.mem_cons_self)
  obtain ⟨vs, hd⟩ := hf
  have hx : ObjOk X.prog X.w H1 s1.heap dd (.xd fs) := I1.hok dd _ ea
  obtain ⟨mA, hns, hr⟩ := hx
  obtain ⟨od, ho, hl⟩ := lookIn_ns hns
  obtain ⟨u, hu, ru⟩ := RelO.some_of (v := v) (o := mA n) (by rw [← l]; exact hr n)
  have J : PySem.W.InstAt s1.heap a oe C (some od) := ⟨ha, hz.1, by unfold PySem.W.notCls; rw [hd] <;> rfl, by rw [hz.2]; exact ho⟩
  exact HandSPX.exc_get I1.kIn J T.ga T.gg T.exC (PySem.W.findObj_own T.hdC hno rfl (by rw [hl, hu])) (handed_of ru) ⟨v, H1, I1.tok _, ru, q⟩
/-! ### try: body, except (x1, x2, x3) as n: suite -/
theorem fly_kept {B h h' : Heap} {l : List Env} {a : Addr} {Z : Obj → Prop} (f : HandSPX.FlyingZ B l a Z h) (k : ∀ b o, h.get? b = some o → h'.get? b = some o) : HandSPX.FlyingZ B l a Z h' := by
  obtain ⟨h1, h2, h3, oe, vs, T, oT, ts, e1, e2, e3, e4, e5, e6, e7, e8, e9⟩ := f
  exact ⟨fun b o z => k _ _ (h1 b o z), h2, h3.of_keeps fun b o e _ => ⟨o, k _ _ e, rfl⟩, oe, vs, T, oT, ts, k _ _ e1, e2, e3, e4, e5, e6, k _ _ e7, e8, e9⟩
def wAsT (K : PySem.W.Frag) (cs : List Value) (i : Nat) (ts : Addr → Value → Option Addr → TS) (Wout : WX) (D : Ends) : WX := fun cls d σ H =>
  ∃ b, PySem.W.exmAny K cls cs = some b ∧ (b = true → ∀ a, H a = none → ts a cls d { nx := fun σ' H' => D.nx (σ'.set i none) H', rt := D.rt, bk := fun σ' H' => D.bk (σ'.set i none) H', ct := fun σ' H' => D.ct (σ'.set i none) H' } (σ.set i (some (.ref a))) H) ∧
    (b = false → Wout cls d σ H)
section
variable {X : Cx} {x1 x2 x3 n : Str} {c1 c2 c3 : Value} {i : Nat} {body suite : List Stmt} {b₀ : Stmt} {p1 p2 p3 pt pos pos' : Pos} {xc : Nat} {tb : WX → TS} {ts : Addr → Value → Option Addr → TS} {Wout : WX}
theorem ps_try_asT (hs : X.stack = X.env :: X.outer) (hf : X.env.frame = some X.env.locals) (hN : X.N.Nodup) (hi : X.N[i]? = some n) (hln : X.env.kindOf n = some .local) (hc1 : Names X x1 c1) (hc2 : Names X x2 c2) (hc3 : Names X x3 c3) (tk : Takes X Wout)
    (hb : ∀ (W : WX) (pn : List (Addr × Obj)) (xe : Value → Shared → Prop), Takes (X.tr pn xe) W → PassesOwn (model X.prog X.w) X.A X.env xe → PSs (X.tr pn xe) body (tb W))
    (hsu : ∀ (a : Addr) (oe : Obj) (cls : Value) (d : Option Addr) (pn : List (Addr × Obj)), Zc cls d oe → (∃ vs, oe.data = .fields vs) → PSs (X.suite a ((a, oe) :: pn)) (b₀ :: suite) (ts a cls d)) :
    PS X (.Try body [.ExceptHandler (some (.Tuple [.Name x1 p1, .Name x2 p2, .Name x3 p3] xc pt)) (some n) (b₀ :: suite) pos'] [] [] pos) (fun D σ H => tb (wAsT X.K [c1, c2, c3] i ts Wout D) D σ H) := by
  refine ⟨fun pins s σ H D I h => ?_⟩
  have ok := I.ok
  have hfr : X.A.frames = some (X.env :: X.outer) := by rw [ok.frames, hs]
  have hloc : Loc X.env.scope n := .inl hln
  refine wpAny_Try_except ?_
  refine wpAny_mono ((hb (wAsT X.K [c1, c2, c3] i ts Wout D) (X.pn ++ pins) (fun e s₁ => wpAny (model X.prog X.w) X.A (noteFrame e X.env) (fun _ s₂ => wpAny (model X.prog X.w) X.A (setFlight e none) (fun _ s₃ =>
    wpAny (model X.prog X.w) X.A (handleBy e X.env [.ExceptHandler (some (.Tuple [.Name x1 p1, .Name x2 p2, .Name x3 p3] xc pt)) (some n) (b₀ :: suite) pos']) (SP X pins D) X.xe s₃) X.xe s₂) X.xe s₁) (fun u s' xx => ?_) PassesOwn.looking).run [] s σ H D (I.toTry _) h) (fun f s1 hsp => ?_) (fun e s1 he => he)
  · obtain ⟨a, B, sI, pins', σ', H', cls, d, rfl, J', nb, up, sky, na, os, ag, b, hb1, hyes, hno⟩ := xx
    have J : Inv X pins σ' H' sI := J'.ofTry ok
    have sky' : Sky B (X.env :: X.outer) a (Zc cls d) X.env.locals s'.heap := by rw [← hs]; exact sky
    show wpAny (model X.prog X.w) X.A (noteFrame (.ref a) X.env) _ _ _
    refine Sky.land Zc.steady hfr hf sky' fun h3 fl3 up3 => ?_
    have J3 : Inv X pins σ' H' { s' with heap := h3 } := J.landed nb fl3.1 (up.trans up3) os ag
    obtain ⟨oe3, vs3, he3, hz3, hd3⟩ := fl3.there
    have notFr : ∀ {h : Heap} {o : Obj} {vs : Array Value}, h.FunFrames B (X.env :: X.outer) → h.get? a = some o → o.data = .fields vs → a ∉ frs (X.env :: X.outer) := fun {h o vs} ff e dd hm => by
      obtain ⟨_, o', e', hnf⟩ := ff.mem hm
      rw [e] at e'; cases e'
      exact hnf _ dd
    have nfr := notFr fl3.2.2.1 he3 hd3
    have nL : a ≠ X.env.locals := fun z => nfr (List.mem_filterMap.mpr ⟨X.env, List.mem_cons_self, by rw [hf, z]⟩)
    have nF : a ∉ X.fs := fun hm => by
      obtain ⟨e, he, q⟩ := List.mem_filterMap.mp hm
      exact nfr (List.mem_filterMap.mpr ⟨e, List.mem_cons_of_mem _ he, q⟩)
    have S3 := J3.suite he3 hd3 na nL nF
    refine wpAny_handleBy_cons (codeAny_handlers_test ?_) (by intro q; cases q)
    have ld : ∀ {x : Str} {c : Value} {p : Pos} {s4 : Shared} {Q : Value → Shared → Prop} {E : Value → Shared → Prop}, Names X x c → Inv (X.suite a ((a, oe3) :: (X.pn ++ pins))) [] σ' H' s4 → Q c s4 → wpAny (model X.prog X.w) (X.A.mark (some (.ref a))) (eval (.Name x p) X.env) Q E s4 := fun {x c p s4 Q E} hc S q => by
      obtain ⟨hg, hdbg, hm | ⟨hm, hv, hnn⟩⟩ := hc
      · exact ld_glob (X := X.suite a ((a, oe3) :: (X.pn ++ pins))) S hg hm q hdbg
      · exact ld_blt (X := X.suite a ((a, oe3) :: (X.pn ++ pins))) S hg hm hv q hnn hdbg
    refine wpAny_Tuple_spliced ?_
    show wpAny _ _ (spliced ((false, eval (.Name x1 p1) X.env) :: backTo pt (starEach [.Name x2 p2, .Name x3 p3] X.env))) _ _ _
    refine Calls.spliced_cons (ld hc1 S3 ?_)
    show wpAny _ _ (spliced ((false, eval (.Name x2 p2) X.env) :: backTo pt (starEach [.Name x3 p3] X.env))) _ _ _
    refine Calls.spliced_cons (ld hc2 S3 ?_)
    show wpAny _ _ (spliced ((false, eval (.Name x3 p3) X.env) :: backTo pt (starEach [] X.env))) _ _ _
    refine Calls.spliced_cons (ld hc3 S3 ?_)
    refine Calls.spliced_nil ⟨by show 3 ≤ sizeLine; decide, ?_⟩
    have kp : ∀ (ot : Obj) b o, h3.get? b = some o → (h3.push ot).get? b = some o := fun ot b o e => Heap.get?_push_of_some _ e
    generalize eot : ({ cls := .type "tuple", data := .seq [c1, c2, c3].toArray } : Obj) = ot
    have hot : (h3.push ot).get? h3.objs.size = some ot := by rw [← eot]; exact Heap.get?_push_size _ rfl
    have fl5 : HandSPX.FlyingZ B (X.env :: X.outer) a (Zc cls d) (h3.push ot) := fly_kept fl3 (kp ot)
    have up5 : h3.UpToSlots (h3.push ot) := fun b o hb hnf => ⟨o.slots, kp ot b o hb⟩
    have J5 : Inv X pins σ' H' { s' with heap := h3.push ot } := J3.kept (kp ot)
    have LT : PySem.W.Looks (model X.prog X.w) (h3.push ot) (typeOf (.ref a)) cls := fun A Q E s k q => wpAny_typeOf_ref (k _ _ (kp ot _ _ he3)) (by rw [hz3.1]; exact q)
    have LM := PySem.W.exm_tup3 (M := model X.prog X.w) (J5.kIn) LT (by rw [eot]; exact hot) hb1
    refine LM.here ?_
    cases b with
    | true =>
      refine codeAny_handlers_suite_as ?_
      refine HandSPX.lands_againZ fl5 fun h4 fl4 up4 => ?_
      have J4 : Inv X pins σ' H' { s' with heap := h4 } := J.landed nb fl4.1 (((up.trans up3).trans up5).trans up4) os ag
      obtain ⟨oe4, vs4, he4, hz4, hd4⟩ := fl4.there
      have S4 := J4.suite he4 hd4 na nL nF
      refine store_ok (X := X.suite a ((a, oe4) :: (X.pn ++ pins))) (v := .ref a) S4 hN hi hloc rfl (fun s5 S5 => ?_) (.inr hln)
      refine wpAny_mono ((hsu a oe4 cls d (X.pn ++ pins) hz4 ⟨_, hd4⟩).run [] s5 _ H' _ S5 (hyes rfl a na)) (fun f s6 hsp => ?_) (fun _ _ z => False.elim z)
      have end_ : ∀ {σ6 : L2.St} {H6 : Hp} {Q : Shared → Prop}, Inv (X.suite a ((a, oe4) :: (X.pn ++ pins))) [] σ6 H6 s6 → (∀ s7, Inv X pins (σ6.set i none) H6 s7 → Q s7) →
          wpAny (model X.prog X.w) X.A (do bindName X.env n .none; unbindBehindTheSuite X.env n pos') (fun _ s7 => Q s7) X.xe s6 := fun {σ6 H6 Q} S6 hq => gone_ok (S6.unsuite ok) hN hi hln hq
      cases f with
      | next =>
        obtain ⟨σ6, H6, S6, q6⟩ := hsp
        exact end_ S6 fun s7 J7 => ⟨_, _, J7, q6⟩
      | brk =>
        obtain ⟨σ6, H6, S6, q6⟩ := hsp
        exact end_ S6 fun s7 J7 => ⟨_, _, J7, q6⟩
      | cont =>
        obtain ⟨σ6, H6, S6, q6⟩ := hsp
        exact end_ S6 fun s7 J7 => ⟨_, _, J7, q6⟩
      | ret u =>
        obtain ⟨v6, σ6, H6, S6, r6, q6⟩ := hsp
        exact end_ S6 fun s7 J7 => ⟨_, _, _, J7, r6, q6⟩
    | false =>
      show wpAny _ X.A (handleBy (.ref a) X.env []) _ _ _
      refine wpAny_handleBy_nil ?_
      obtain ⟨k1, k2, k3, oe, vs, T, oT, ts', he, hz, hd, h1, hr⟩ := id fl5
      unfold PySem.passOn
      refine wpAny_bind (wpAny_field he hd h1 ?_)
      rw [if_neg (show ¬ ((Value.ref T == Value.none) = true) from by simp)]
      have fin : wpAny (model X.prog X.w) X.A (setFlight (.ref a) X.env.frame) (fun _ s4 => wpAny (model X.prog X.w) X.A (throw (.ref a) : Sem Flow) (SP X pins D) X.xe s4) X.xe { s' with heap := h3.push ot } := by
        rw [hf]
        refine HandSPX.setFlight_upZ fl5 fun h4 hh4 up4 => wpAny_throw (tk _ _ ?_)
        exact ⟨a, B, sI, pins, σ', H', cls, d, rfl, J, nb, ((up.trans up3).trans up5).trans up4, .inr (.inr (by rw [hs]; exact hh4)), na, os, ag, hno rfl⟩
      first
        | exact wpAny_bind (wpAny_pure (wpAny_bind fin))
        | exact wpAny_bind fin
  · cases f with
    | next =>
      obtain ⟨σ', H', J', q⟩ := hsp
      exact wpAny_execs_nil ⟨σ', H', J'.ofTry ok, q⟩
    | brk =>
      obtain ⟨σ', H', J', q⟩ := hsp
      exact ⟨σ', H', J'.ofTry ok, q⟩
    | cont =>
      obtain ⟨σ', H', J', q⟩ := hsp
      exact ⟨σ', H', J'.ofTry ok, q⟩
    | ret u =>
      obtain ⟨v, σ', H', J', r, q⟩ := hsp
      exact ⟨v, σ', H', J'.ofTry ok, r, q⟩
end
end Tw
namespace Tw
open PySem PySem.Spec PyProof.Rows L2
/-! ### data in a heap that grows -/
theorem sqL_same {K : PySem.W.Frag} {H H' : Hp} {a : Addr} {xs : List V} (e : Same H H') (h : SqL K H a xs) : SqL K H' a xs := by
  rcases h with (h | ⟨o, h⟩) | h
  · exact .inl (.inl (e _ _ h))
  · exact .inl (.inr ⟨o, e _ _ h⟩)
  · exact .inr h
mutual
theorem dp_same {K : PySem.W.Frag} {H H' : Hp} (e : Same H H') : ∀ (d : PyData) (v : V), Dp K H v d → Dp K H' v d
  | .none, _, h => by cases h; exact .non
  | .bool b, _, h => by cases h; exact .bl b
  | .int i, _, h => by cases h; exact .int i
  | .str x, _, h => by cases h; exact .str x
  | .list ds, _, h => by
    cases h with
    | lst hs ha => exact .lst (sqL_same e hs) (dpAll_same e ds _ ha)
  | .tuple ds, _, h => by
    cases h with
    | tup hs ha => exact .tup (sqT_same e hs) (dpAll_same e ds _ ha)
theorem dpAll_same {K : PySem.W.Frag} {H H' : Hp} (e : Same H H') : ∀ (ds : List PyData) (vs : List V), DpAll K H vs ds → DpAll K H' vs ds
  | [], _, h => by cases h; exact .nil
  | d :: ds, _, h => by
    cases h with
    | cons h1 h2 => exact .cons (dp_same e d _ h1) (dpAll_same e ds _ h2)
end
theorem dpAll_of {K : PySem.W.Frag} {H : Hp} : ∀ {xs : List V} {ds : List PyData}, xs.length = ds.length → (∀ (i : Nat) x d, xs[i]? = some x → ds[i]? = some d → Dp K H x d) → DpAll K H xs ds
  | [], [], _, _ => .nil
  | [], _ :: _, h, _ => by cases h
  | _ :: _, [], h, _ => by cases h
  | x :: xs, d :: ds, h, f => .cons (f 0 x d rfl rfl) (dpAll_of (by simpa using h) fun i y e h1 h2 => f (i + 1) y e h1 h2)
/-- what is new in H' beside H -/
def newOf (H H' : Hp) : Hp := fun b => if (H b).isSome then none else H' b
theorem newOf_same {H H' : Hp} : Same (newOf H H') H' := fun a o e => by
  unfold newOf at e
  split at e
  · cases e
  · exact e
theorem newOf_at {H H' : Hp} {a : Addr} {o : HO} (n : H a = none) (h : H' a = some o) : newOf H H' a = some o := by
  unfold newOf
  rw [n]
  exact h
theorem newOf_old {H H' : Hp} {a : Addr} {o : HO} (h : newOf H H' a = some o) : H a = none := by
  unfold newOf at h
  split at h
  · cases h
  · rename_i q
    cases e : H a with
    | none => rfl
    | some u => rw [e] at q; simp at q
/-- all but the thing at D -/
def butD (D : Addr) (H : Hp) : Hp := fun b => if b = D then none else H b
theorem goodD_flat {n c : Nat} {d : PyData} {K : PySem.W.Frag} {H : Hp} {v : V} (h : Dp K H v d) (hf : flatV v = true) : ∀ H', Dp K H' v d := fun H' => by
  cases h with
  | non => exact .non
  | bl b => exact .bl b
  | int i => exact .int i
  | str x => exact .str x
  | lst _ _ => cases hf
  | tup _ _ => cases hf
end Tw
namespace Tw
open PySem PySem.Spec PyProof.Rows L2
/-! ### defs that may raise, by name -/
/-- names in a context, whatever is wished of errors -/
theorem Nm.xe {P : Program} {w : World} {K : PySem.W.Frag} {mg : Str → Option Value} {base : Heap} {j : Nat} {X : Cx} {NS WS : List (Str × Nat)} {G : List Str} (h : Nm P w K mg base j X.nox NS WS G) : Nm P w K mg base j X NS WS G := by
  obtain ⟨h1, h2, h3, h4, h5, h6, h7, h8, h9, h10, h11⟩ := h
  exact ⟨h1, h2, h3, h4, h5, h6, h7, h8, h9, h10, h11⟩
/-- .. in a try's body, in an except suite -/
theorem Nm.tr {P : Program} {w : World} {K : PySem.W.Frag} {mg : Str → Option Value} {base : Heap} {j : Nat} {X : Cx} {NS WS : List (Str × Nat)} {G : List Str} (h : Nm P w K mg base j X NS WS G) (pn : List (Addr × Obj)) (xe : Value → Shared → Prop) : Nm P w K mg base j (X.tr pn xe) NS WS G := by
  obtain ⟨h1, h2, h3, h4, h5, h6, h7, h8, h9, h10, h11⟩ := h
  exact ⟨h1, h2, h3, h4, h5, h6, h7, h8, h9, h10, h11⟩
structure Dx (P : Program) (w : World) (K : PySem.W.Frag) (mg : Str → Option Value) (base : Heap) (k : Nat) (x : Str) (ps : List Str) (sp : Sp) : Prop where
  ex : ∃ f fd, mg x = some (.ref f) ∧ PySem.W.keepIn K (.ref f) = true ∧ Binds K fd ps [] ∧ FnOk P w K mg base (L2.CX P w) k f fd ps sp
def tDx (sp : Sp) (E : XK) (t : TA) : TE := fun σ H Q => t σ H fun vs H1 => sp vs H1 Q E
section
variable {P : Program} {w : World} {K : PySem.W.Frag} {mg : Str → Option Value} {base : Heap} {j k : Nat} {X : Cx} {NS WS : List (Str × Nat)} {G : List Str} {x : Str} {ps : List Str} {sp : Sp} {e : Expr} {es : List Expr} {t : TA} {p pos : Pos} {E : XK} {W : WX}
theorem n_dX (h : Nm P w K mg base j X NS WS G) (D : Dx P w K mg base k x ps sp) (hk : k ≤ j) (hg : x ∈ G) (tk : Takes X (fun cls d _ H => E cls d H)) (ha : PA X (e :: es) t)
    (he : starEach (e :: es) X.env = (false, eval e X.env) :: starEach es X.env := by rfl) (hpl : (backTo pos (starEach es X.env)).any (·.1) = false := by rfl) :
    PE X (.Call (.Name x p) (e :: es) [] pos) (tDx sp E t) := by
  obtain ⟨h1, h2, h3, h4, h5, hr, _, _, _, _, hgl⟩ := h
  subst h1 h2 h3 h4 h5
  obtain ⟨f, fd, hm, hkp, hb, F⟩ := D.ex
  refine ⟨fun pins s σ H Q I h => ?_⟩
  refine (pe_call F (hr.mono hk) (hgl x hg).1 hm hkp hb .nil (E := E) (passes_call tk fun _ _ _ _ z => z) ha (hgl x hg).2.1 he hpl).run pins s σ H Q I ?_
  show t σ H fun vs H1 => sp (vs ++ []) H1 Q E
  simp only [List.append_nil]
  exact h
end
/-! ### errors that are made -/
/-- what an error of the class at C that tells nm and ds leaves to be wished -/
def ErrAt (K : PySem.W.Frag) (C : Addr) (nm : Str) (ds : List PyData) (H : Hp) (E : XK) : Prop := ∀ (dd t : Addr) (fs : List (Str × V)) (H' : Hp), Same H H' → H dd = none → H' dd = some (.xd fs) → fs.lookup ("code" : Str) = some (.str nm) → fs.lookup ("details" : Str) = some (.ref t) → Dp K (newOf H H') (.ref t) (.tuple ds) → E (.ref C) (some dd) H'
/-- the promise of an error's __init__ -/
def spErr (K : PySem.W.Frag) (C : Addr) (nm : Str) (vsOk : List V → Hp → List PyData → Prop) : Sp := fun vs H Q _ => ∃ (a : Addr) (ws : List V) (ds : List PyData), vs = .ref a :: ws ∧ H a = some (exo a C none) ∧ vsOk ws (butD a H) ds ∧
  ∀ (H' : Hp) (dx t : Addr) (fs : List (Str × V)), (∀ b o, b ≠ a → H b = some o → H' b = some o) → H dx = none → H' a = some (exo a C (some dx)) → H' dx = some (exd dx fs) → fs.lookup ("code" : Str) = some (.str nm) → fs.lookup ("details" : Str) = some (.ref t) → Dp K (butD dx (butD a (newOf H H'))) (.ref t) (.tuple ds) → Q .non H'
structure Ke (P : Program) (w : World) (K : PySem.W.Frag) (mg : Str → Option Value) (base : Heap) (k : Nat) (x : Str) (C : Addr) (nm : Str) (ps : List Str) (vsOk : List V → Hp → List PyData → Prop) : Prop where
  at_ : mg x = some (.ref C)
  T : OexC K C
  ex : ∃ fI fd, PySem.W.findIn K (.ref C) "__init__" = some (some (.ref fI)) ∧ PySem.W.typeIn K (.ref fI) = some (.type "function") ∧ Binds K fd ps [] ∧ FnOk P w K mg base CX0 k fI fd ps (spErr K C nm vsOk)
/-- what is wanted of the error's object behind its __init__ -/
def keEnd (C a : Addr) (H1 : Hp) (E : XK) : VK := fun v H2 => v = .non ∧ ∃ (d : Addr) (fs : List (Str × V)), H2 a = some (exo a C (some d)) ∧ H2 d = some (exd d fs) ∧ H1 d = none ∧ E (.ref C) (some d) (upd (del H2 a) d (.xd fs))
def tKe (K : PySem.W.Frag) (C : Addr) (nm : Str) (vsOk : List V → Hp → List PyData → Prop) (ta : TA) : L2.St → Hp → XK → Prop := fun σ H E => ta σ H fun vs H1 => vs.length ≤ 1000 ∧ ∀ a, H1 a = none → spErr K C nm vsOk (.ref a :: vs) (upd H1 a (exo a C none)) (keEnd C a H1 E) (fun _ _ _ => False)
theorem butD_free {a : Addr} {H : Hp} {o : HO} (h : H a = none) : butD a (upd H a o) = H := by
  funext b
  unfold butD
  by_cases hb : b = a
  · rw [if_pos hb, hb, h]
  · rw [if_neg hb, upd_ne hb]
section
variable {P : Program} {w : World} {K : PySem.W.Frag} {mg : Str → Option Value} {base : Heap} {j k : Nat} {X : Cx} {NS WS : List (Str × Nat)} {G : List Str} {x nm : Str} {C : Addr} {ps : List Str} {vsOk : List V → Hp → List PyData → Prop} {e : Expr} {es : List Expr} {t : TA} {p pos : Pos}
theorem ke_end {a : Addr} {vs : List V} {H1 : Hp} {ds : List PyData} {E : XK} (na : H1 a = none) (hv : vsOk vs H1 ds) (hE : ErrAt K C nm ds H1 E) :
    spErr K C nm vsOk (.ref a :: vs) (upd H1 a (exo a C none)) (keEnd C a H1 E) (fun _ _ _ => False) := by
  refine ⟨a, vs, ds, rfl, upd_same, by rw [butD_free na]; exact hv, fun H' dx t fs hs hdx ha hd hc hde hdp => ?_⟩
  have ndx : dx ≠ a := fun z => by rw [z, upd_same] at hdx; cases hdx
  rw [upd_ne ndx] at hdx
  refine ⟨rfl, dx, fs, ha, hd, hdx, hE dx t fs _ (fun b o hb => ?_) hdx upd_same hc hde (dp_same (fun b o hb => ?_) _ _ hdp)⟩
  · have n1 : b ≠ a := ne_of_none hb na
    have n2 : b ≠ dx := ne_of_none hb hdx
    rw [upd_ne n2, del_ne n1]
    exact hs b o n1 (by rw [upd_ne n1]; exact hb)
  · unfold butD at hb
    split at hb
    · cases hb
    · rename_i n2
      split at hb
      · cases hb
      · rename_i n1
        have z := newOf_old hb
        rw [upd_ne n1] at z
        refine newOf_at z ?_
        rw [upd_ne n2, del_ne n1]
        exact newOf_same _ _ hb
theorem n_ke (h : Nm P w K mg base j X NS WS G) (D : Ke P w K mg base k x C nm ps vsOk) (hk : k + 1 ≤ j) (hg : x ∈ G) (ha : PA X (e :: es) t)
    (he : starEach (e :: es) X.env = (false, eval e X.env) :: starEach es X.env := by rfl) (hpl : (backTo pos (starEach es X.env)).any (·.1) = false := by rfl) :
    PMk X (.Call (.Name x p) (e :: es) [] pos) (tKe K C nm vsOk t) := by
  obtain ⟨h1, h2, h3, h4, h5, hr, _, _, _, _, hgl⟩ := h
  subst h1 h2 h3 h4 h5
  obtain ⟨fI, fd, i1, i2, hb, F⟩ := D.ex
  intro pins s σ H Q I hh
  refine pmk_oex (dvs := []) D.T i1 i2 F (hr.mono hk) hb .nil pass0 (hgl x hg).1 D.at_ ha (hgl x hg).2.1 he hpl pins s σ H Q I ?_
  show t σ H fun vs H1 => vs.length ≤ 1000 ∧ ∀ a, H1 a = none → spErr X.K C nm vsOk (.ref a :: (vs ++ [])) (upd H1 a (exo a C none)) (keEnd C a H1 Q) (fun _ _ _ => False)
  simp only [List.append_nil]
  exact hh
/-- .. an error without arguments -/
theorem ke_ok {K : PySem.W.Frag} {C : Addr} {nm : Str} {vsOk : List V → Hp → List PyData → Prop} {vs : List V} {H1 : Hp} {ds : List PyData} {E : XK} (hl : vs.length ≤ 1000) (hv : vsOk vs H1 ds) (hE : ErrAt K C nm ds H1 E) :
    vs.length ≤ 1000 ∧ ∀ a, H1 a = none → spErr K C nm vsOk (.ref a :: vs) (upd H1 a (exo a C none)) (keEnd C a H1 E) (fun _ _ _ => False) := ⟨hl, fun a na => ke_end na hv hE⟩
end
end Tw
namespace Tw
open PySem PySem.Spec PyProof.Rows L2 LamX NdefX
/-! ### lambdas as things: made -/
/-- a lambda's words: its qualified name, parameters, body, scope, captured cells, code object, its defaults -/
structure LF where
  qual : Str
  params : Arguments
  body : Expr
  scope : Scope
  cl : List (Str × Addr)
  c : Addr
  dv : Value
abbrev LF.fd (F : LF) (pm ctv : Value) : FuncData :=
  { name := "<lambda>", qualname := F.qual, params := F.params, body := .expr F.body, scope := F.scope, globals := mainGlobals, closure := F.cl, defaults := F.dv, kwdefaults := .none, doc := .none, pyModule := pm, annotations := none, code := .ref F.c, closureTuple := ctv, builtins := builtinsNs }
abbrev LF.obj (F : LF) (pm ctv : Value) : Obj := { cls := .type "function", data := .func (F.fd pm ctv) }
/-- the object at f is the lambda F -/
def LamO (f : Addr) (F : LF) : HO := .ext fun h => ∃ pm ctv : Value, h.get? f = some (F.obj pm ctv)
theorem lamO_at {P : Program} {w : World} {H : Hp} {h : Heap} {f : Addr} {F : LF} (hok : HOk P w H h) (e : H f = some (LamO f F)) : ∃ pm ctv : Value, h.get? f = some (F.obj pm ctv) := by
  obtain ⟨z, _, _⟩ := hok f _ e
  exact z
section
variable {M : Model} {A : Around} {E : Value → Shared → Prop} {s : Shared} {name qual : Str} {params : Arguments} {body : Expr} {scope : Scope} {env : Env} {c P : Addr} {ps : Array Value} {pos : Pos} {firstLine : Nat} {mg : Str → Option Value} {clos : List (Str × Addr)} {Q : Value → Shared → Prop} {dv : Value}
theorem lam_tail (hcl : closureFor scope env = pure clos) (hge0 : env.globals = mainGlobals) (hg : s.heap.Ns mainGlobals mg) (hcode : env.code = .ref c) (C : PySem.W.CodeHd s.heap c P) (hP : s.heap.get? P = some { cls := .none, data := .fields ps }) (ht : TriplesOk ps.toList)
    (hnf : codeAmong pos ps.toList = none) (hgP : mainGlobals ≠ P) (hb : s.heap.BuiltinsAt mg P)
    (h : ∀ (c' : Addr) (ctv : Value) (h' : Heap) (tk : Nat), Heap.ExtBut P s.heap h' → s.heap.objs.size ≤ c' → c' < h'.objs.size → h'.CodeRec (.ref c') qual → h'.get? P = some { cls := .none, data := .fields (ps ++ #[rawInt pos.line, rawInt pos.col, .ref c']) } →
      Q (.ref h'.objs.size) { s with heap := h'.push (LF.obj ⟨qual, params, body, scope, clos, c', dv⟩ ((mg "__name__").getD .none) ctv), toks := tk }) :
    wpAny M A (makeTail "<lambda>" qual params (.expr body) scope env dv .none none pos firstLine) Q E s := by
  obtain ⟨bm, ob, hbm, hne0, _, hneP, hbo, hcls, hdict, hdata⟩ := hb
  unfold makeTail
  rw [hcl, hge0]
  refine wpAny_bind (wpAny_pure ?_)
  cases clos with
  | nil =>
    simp only [List.isEmpty_nil, if_true]
    refine wpAny_bind (wpAny_pure ?_)
    refine wpAny_bind (wpAny_functionCodeX hcode (C.code hP ht) (C.tab hP) hnf fun c' h' tk hx hge hlt _ hrec htb _ => ?_)
    have hg' := hg.extBut hx hgP
    refine wpAny_bind (wpAny_builtinsFor hg' hbm hne0 (hx _ _ hneP hbo) hcls hdict hdata ?_)
    refine wpAny_bind (wpAny_nsGet hg' ?_)
    exact wpAny_bind (wpAny_pure (wpAny_newObj_type (h c' .none h' tk hx hge hlt hrec htb.2) (by size_fits)))
  | cons q r =>
    simp only [List.isEmpty_cons, Bool.false_eq_true, if_false]
    refine wpAny_bind (wpAny_newTextTuple ?_)
    refine wpAny_bind (wpAny_functionCodeX hcode ((C.keeps fun b o e => Heap.get?_push_of_some _ e).code (Heap.get?_push_of_some _ hP) ht) ((C.keeps fun b o e => Heap.get?_push_of_some _ e).tab (Heap.get?_push_of_some _ hP)) hnf fun c' h' tk hx hge hlt _ hrec htb _ => ?_)
    have hg' := (hg.push _).extBut hx hgP
    have hx' : Heap.ExtBut P s.heap h' := fun b o hb' e => hx b o hb' (Heap.get?_push_of_some _ e)
    have hge' : s.heap.objs.size ≤ c' := Nat.le_trans (by rw [Heap.size_push]; omega) hge
    refine wpAny_bind (wpAny_builtinsFor hg' hbm hne0 (hx' _ _ hneP hbo) hcls hdict hdata ?_)
    refine wpAny_bind (wpAny_nsGet hg' ?_)
    exact wpAny_bind (wpAny_pure (wpAny_newObj_type (h c' _ h' tk hx' hge' hlt hrec htb.2) (by size_fits)))
theorem lam_tailHit {c' : Addr} (hcl : closureFor scope env = pure clos) (hge0 : env.globals = mainGlobals) (hg : s.heap.Ns mainGlobals mg) (hcode : env.code = .ref c) (C : PySem.W.CodeHd s.heap c P) (hP : s.heap.get? P = some { cls := .none, data := .fields ps }) (ht : TriplesOk ps.toList)
    (hf : codeAmong pos ps.toList = some (.ref c')) (hb : s.heap.BuiltinsAt mg P)
    (h : ∀ (ctv : Value) (h' : Heap) (tk : Nat), (∀ b o, s.heap.get? b = some o → h'.get? b = some o) → s.heap.objs.size ≤ h'.objs.size →
      Q (.ref h'.objs.size) { s with heap := h'.push (LF.obj ⟨qual, params, body, scope, clos, c', dv⟩ ((mg "__name__").getD .none) ctv), toks := tk }) :
    wpAny M A (makeTail "<lambda>" qual params (.expr body) scope env dv .none none pos firstLine) Q E s := by
  obtain ⟨bm, ob, hbm, hne0, _, hneP, hbo, hcls, hdict, hdata⟩ := hb
  unfold makeTail
  rw [hcl, hge0]
  refine wpAny_bind (wpAny_pure ?_)
  cases clos with
  | nil =>
    simp only [List.isEmpty_nil, if_true]
    refine wpAny_bind (wpAny_pure ?_)
    refine wpAny_bind (wpAny_functionCode_hit hcode (C.code hP ht) hf ?_)
    refine wpAny_bind (wpAny_builtinsFor hg hbm hne0 hbo hcls hdict hdata ?_)
    refine wpAny_bind (wpAny_nsGet hg ?_)
    exact wpAny_bind (wpAny_pure (wpAny_newObj_type (h .none s.heap s.toks (fun _ _ e => e) (Nat.le_refl _)) (by size_fits)))
  | cons q r =>
    simp only [List.isEmpty_cons, Bool.false_eq_true, if_false]
    refine wpAny_bind (wpAny_newTextTuple ?_)
    refine wpAny_bind (wpAny_functionCode_hit hcode ((C.keeps fun b o e => Heap.get?_push_of_some _ e).code (Heap.get?_push_of_some _ hP) ht) hf ?_)
    refine wpAny_bind (wpAny_builtinsFor (hg.push _) hbm hne0 (Heap.get?_push_of_some _ hbo) hcls hdict hdata ?_)
    refine wpAny_bind (wpAny_nsGet (hg.push _) ?_)
    have hsz : ∀ oT : Obj, s.heap.objs.size ≤ (s.heap.push oT).objs.size := fun oT => by rw [Heap.size_push]; omega
    exact wpAny_bind (wpAny_pure (wpAny_newObj_type (h _ _ s.toks (fun b o e => Heap.get?_push_of_some _ e) (hsz _)) (by size_fits)))
end
section
variable {X : Cx} {pins : List (Addr × Obj)} {σ : L2.St} {H : Hp} {s : Shared}
theorem inv_lam {F : LF} {pm ctv : Value} {t' : Nat} (I : Inv X pins σ H s) :
    Inv X pins σ (upd H s.heap.objs.size (LamO s.heap.objs.size F)) { s with heap := s.heap.push (F.obj pm ctv), toks := t' } := by
  refine I.laid (a := s.heap.objs.size) (fun b u e => Heap.get?_push_of_some _ e) (Nat.le_refl _) ?_
  have e : (s.heap.push (F.obj pm ctv)).get? s.heap.objs.size = some (F.obj pm ctv) := Heap.get?_push_size _ rfl
  exact ⟨⟨pm, ctv, e⟩, ⟨_, e⟩, fun h1 h2 ⟨p, q, z⟩ st => ⟨p, q, st _ z⟩⟩
/-- behind the defaults: the lambda's object is made -/
theorem lam_obj {T : List NTab} {nm : Nat → Nat → Str} {c P : Addr} {params : Arguments} {body : Expr} {scope : Scope} {pos : Pos} {dv : Value} {E : Value → Shared → Prop} {Q : Value → Shared → Prop} (I : Inv X pins σ H s) (TB : TabB X.base X.mg c P) (hcode : X.env.code = .ref c)
    (hm : (P, nm) ∈ T) (hn : nm pos.line pos.col = X.env.qual ++ "<lambda>") (hu : ∀ p ∈ T, p.1 = P → p.2 = nm) (hT : TabsN T H) (hfree : ∀ y ∈ scope.names, y.2 = .free → ∃ c, X.env.cells.lookup y.1 = some c)
    (h : ∀ (f c' : Addr) (H1 : Hp) (s' : Shared), Inv X pins σ H1 s' → ExtN H H1 → (∀ b, H1 b = Option.none → H b = Option.none) → TabsN T H1 → H f = none → H1 f = some (LamO f ⟨X.env.qual ++ "<lambda>", params, body, scope, cloFrom X.env.cells scope.names [], c', dv⟩) → H1 c' = some (CodeO c' (X.env.qual ++ "<lambda>")) → Q (.ref f) s') :
    wpAny (model X.prog X.w) X.A (makeTail "<lambda>" (X.env.qual ++ "<lambda>") params (.expr body) scope X.env dv .none none pos pos.line) Q E s := by
  obtain ⟨ps, hP, ht, ha⟩ := (show TabN H P nm from hT _ hm)
  have bP : s.heap.BuiltinsAt X.mg P := TB.bm.keeps I.bk
  have hP' : s.heap.get? P = some { cls := .none, data := .fields ps } := I.hok P _ hP
  cases hc : codeAmong pos ps.toList with
  | none =>
    refine lam_tail (mg := X.mg) (c := c) (P := P) (ps := ps) (closure_ok hfree) I.ok.glob (I.mod.glob.keeps I.bk) hcode (TB.code.keeps I.bk) hP' ht hc TB.gP bP fun c' ctv h' tk hx hge hlt hrec htb => ?_
    obtain ⟨c2, oc, vs, t, e2, hoc, hd, hv⟩ := hrec
    cases e2
    have nC : H c' = none := I.hok.fresh hge
    have I1 := inv_table (t' := tk) (more := #[rawInt pos.line, rawInt pos.col, .ref c']) (h' := h') I hP (fun b o hb e => hx b o hb e) htb hge ⟨oc, vs, t, hoc, hd, hv⟩
    have hE : ExtN H (upd (upd H P (.tbl (ps ++ #[rawInt pos.line, rawInt pos.col, .ref c']))) c' (CodeO c' (X.env.qual ++ "<lambda>"))) := fun b o e n => by
      rw [upd_ne (ne_of_none e nC), upd_ne (fun z => n ps (Option.some.inj (e.symm.trans (by rw [z]; exact hP))))]
      exact e
    have eL : (ps ++ #[rawInt pos.line, rawInt pos.col, .ref c']).toList = ps.toList ++ [rawInt pos.line, rawInt pos.col, .ref c'] := by simp
    have T1 : TabsN T (upd (upd H P (.tbl (ps ++ #[rawInt pos.line, rawInt pos.col, .ref c']))) c' (CodeO c' (X.env.qual ++ "<lambda>"))) := fun p hp => by
      by_cases hb : p.1 = P
      · rw [hu p hp hb, hb]
        refine ⟨_, by rw [upd_ne (ne_of_none hP nC), upd_same], by rw [eL]; exact PySem.TriplesOk_snoc _ _ _ _ ht, fun p' cv hcv => ?_⟩
        rw [eL] at hcv
        rcases among_app2 _ ht hcv with z | ⟨z, z1, z2⟩
        · obtain ⟨c0, e1, e2⟩ := ha p' cv z
          exact ⟨c0, e1, hE _ _ e2 codeO_ne⟩
        · refine ⟨c', z, ?_⟩
          rw [← z1, ← z2, hn]
          exact upd_same
      · obtain ⟨ps', a1, a2, a3⟩ := hT p hp
        refine ⟨ps', by rw [upd_ne (ne_of_none a1 nC), upd_ne hb]; exact a1, a2, fun p' cv hcv => ?_⟩
        obtain ⟨c0, e1, e2⟩ := a3 p' cv hcv
        exact ⟨c0, e1, hE _ _ e2 codeO_ne⟩
    have nF := I1.hok.fresh (Nat.le_refl _)
    have I2 := inv_lam (F := ⟨X.env.qual ++ "<lambda>", params, body, scope, cloFrom X.env.cells scope.names [], c', dv⟩) (t' := tk) (pm := (X.mg "__name__").getD .none) (ctv := ctv) I1
    refine h h'.objs.size c' _ _ I2 (fun b o e n => ?_) (fun b e => upd_none (upd_none (upd_none e))) (T1.ext fun b o e => ?_) (I.hok.fresh (Nat.le_trans hge (Nat.le_of_lt hlt))) upd_same ?_
    · have e1 := hE b o e n
      exact (upd_ne (ne_of_none e1 nF)).trans e1
    · exact (upd_ne (ne_of_none e nF)).trans e
    · exact (upd_ne (Nat.ne_of_lt hlt)).trans upd_same
  | some cv =>
    obtain ⟨c', e, hco⟩ := ha pos cv hc
    subst e
    rw [hn] at hco
    refine lam_tailHit (mg := X.mg) (c := c) (P := P) (ps := ps) (closure_ok hfree) I.ok.glob (I.mod.glob.keeps I.bk) hcode (TB.code.keeps I.bk) hP' ht hc bP fun ctv h' tk hx hsz => ?_
    have I1 : Inv X pins σ H { s with heap := h', toks := tk } := I.kept hx
    have nF : H h'.objs.size = none := I1.hok.fresh (Nat.le_refl _)
    have I2 := inv_lam (F := ⟨X.env.qual ++ "<lambda>", params, body, scope, cloFrom X.env.cells scope.names [], c', dv⟩) (t' := tk) (pm := (X.mg "__name__").getD .none) (ctv := ctv) I1
    refine h h'.objs.size c' _ _ I2 (fun b o e n => ?_) (fun b e => upd_none e) (hT.ext fun b o e => ?_) nF upd_same ?_
    · exact (upd_ne (ne_of_none e nF)).trans e
    · exact (upd_ne (ne_of_none e nF)).trans e
    · exact (upd_ne (ne_of_none hco nF)).trans hco
end
/-- lambda: body | lambda a=0: body (the default told by its tuple) -/
def tLamb (T : List NTab) (mk : Addr → LF) : TE := fun σ H Q => TabsN T H ∧ ∀ (f c' : Addr) (H1 : Hp), ExtN H H1 → (∀ b, H1 b = Option.none → H b = Option.none) → TabsN T H1 → H f = none → H1 f = some (LamO f (mk c')) → H1 c' = some (CodeO c' (mk c').qual) → Q (.ref f) H1
section
variable {X : Cx} {T : List NTab} {nm : Nat → Nat → Str} {c P : Addr} {params : Arguments} {body : Expr} {scope : Scope} {pos : Pos}
theorem pe_lamb (TB : TabB X.base X.mg c P) (hcode : X.env.code = .ref c) (hm : (P, nm) ∈ T) (hn : nm pos.line pos.col = X.env.qual ++ "<lambda>") (hu : ∀ p ∈ T, p.1 = P → p.2 = nm)
    (hfree : ∀ y ∈ scope.names, y.2 = .free → X.env.scope.names.lookup y.1 = some .cell ∨ X.env.scope.names.lookup y.1 = some .free) (hdef : defaultsOf params X.env = ([], [])) :
    PE X (.Lambda params body scope pos) (tLamb T fun c' => ⟨X.env.qual ++ "<lambda>", params, body, scope, cloFrom X.env.cells scope.names [], c', .none⟩) := by
  refine ⟨fun pins s σ H Q I h => ?_⟩
  obtain ⟨hT, h⟩ := h
  have hfr : ∀ y ∈ scope.names, y.2 = .free → ∃ c, X.env.cells.lookup y.1 = some c := fun y hy e => (hfree y hy e).elim (fun z => I.ok.has _ (.inl z)) fun z => I.ok.has _ (.inr z)
  refine PySem.W.kla_eval hdef ?_
  rw [makeFunction_eq]
  simp only [List.zip_nil_right, List.filterMap_nil, List.isEmpty_nil, if_true, pure_bind]
  exact lam_obj I TB hcode hm hn hu hT hfr fun f c' H1 s' I1 e1 e2 T1 f0 f1 c1 => ⟨.ref f, H1, I1, rfl, h f c' H1 e1 e2 T1 f0 f1 c1⟩
end
end Tw
namespace Tw
open PySem PySem.Spec PyProof.Rows L2 LamX NdefX
/-! ### cells lent to a callee: known things in its heap -/
/-- at b just this object -/
def PinO (b : Addr) (o : Obj) : HO := .ext fun h => h.get? b = some o
theorem pin_own {b x : Addr} {o : Obj} : PinO b o ≠ .own x := fun z => by
  have z' : HO.ext _ = HO.own x := z
  cases z'
theorem pin_tup {b : Addr} {o : Obj} {xs : List V} : PinO b o ≠ .tup xs := fun z => by
  have z' : HO.ext _ = HO.tup xs := z
  cases z'
theorem pin_frz {b : Addr} {o ob : Obj} {u : HO} : PinO b o ≠ .frz ob u := fun z => by
  have z' : HO.ext _ = HO.frz ob u := z
  cases z'
theorem pin_tbl {b : Addr} {o : Obj} {ps : Array Value} : PinO b o ≠ .tbl ps := fun z => by
  have z' : HO.ext _ = HO.tbl ps := z
  cases z'
theorem pin_at {P : Program} {w : World} {H : Hp} {h : Heap} {b : Addr} {o : Obj} (hok : HOk P w H h) (e : H b = some (PinO b o)) : h.get? b = some o := by
  have x : ObjOk P w H h b (.ext fun h => h.get? b = some o) := hok b _ e
  exact x.1
theorem pin_ok {P : Program} {w : World} {H : Hp} {h : Heap} {b : Addr} {o : Obj} (e : h.get? b = some o) : ObjOk P w H h b (PinO b o) := ⟨e, ⟨o, e⟩, fun h1 h2 z k => k _ z⟩
abbrev Cells := List (Addr × Obj)
def lend (cs : Cells) (H : Hp) : Hp := fun b => match cs.lookup b with
  | some o => some (PinO b o)
  | none => H b
def unlend (cs : Cells) (H : Hp) : Hp := fun b => match cs.lookup b with
  | some _ => none
  | none => H b
theorem lend_in {cs : Cells} {H : Hp} {b : Addr} {o : Obj} (h : cs.lookup b = some o) : lend cs H b = some (PinO b o) := by unfold lend; rw [h]
theorem lend_out {cs : Cells} {H : Hp} {b : Addr} (h : cs.lookup b = none) : lend cs H b = H b := by unfold lend; rw [h]
theorem unlend_in {cs : Cells} {H : Hp} {b : Addr} {o : Obj} (h : cs.lookup b = some o) : unlend cs H b = none := by unfold unlend; rw [h]
theorem unlend_out {cs : Cells} {H : Hp} {b : Addr} (h : cs.lookup b = none) : unlend cs H b = H b := by unfold unlend; rw [h]
theorem unlend_some {cs : Cells} {H : Hp} {b : Addr} {o : HO} (h : unlend cs H b = some o) : cs.lookup b = none ∧ H b = some o := by
  cases e : cs.lookup b with
  | some u => rw [unlend_in e] at h; cases h
  | none => rw [unlend_out e] at h; exact ⟨rfl, h⟩
theorem unlend_none {cs : Cells} {H : Hp} {b : Addr} (h : H b = none) : unlend cs H b = none := by
  cases e : cs.lookup b with
  | some u => exact unlend_in e
  | none => rw [unlend_out e]; exact h
/-- all the cells at cs stand in H -/
def Lent (cs : Cells) (H : Hp) : Prop := ∀ b o, cs.lookup b = some o → H b = some (PinO b o)
theorem Lent.same {cs : Cells} {H H' : Hp} (l : Lent cs H) (e : Same H H') : Lent cs H' := fun b o h => e _ _ (l b o h)
theorem lent_lend (cs : Cells) (H : Hp) : Lent cs (lend cs H) := fun b o h => lend_in h
/-- a heap that is held, without what is lent -/
theorem hok_unlend {P : Program} {w : World} {cs : Cells} {H : Hp} {h : Heap} (x : HOk P w H h) (l : Lent cs H) : HOk P w (unlend cs H) h := fun b o e => by
  obtain ⟨_, e2⟩ := unlend_some e
  refine (x b o e2).stay (fun c u _ q => q) (fun c q => ?_) fun c xs q => ?_
  · cases ec : cs.lookup c with
    | none => rw [unlend_out ec]; exact q
    | some oc => rw [l c oc ec] at q; exact absurd (Option.some.inj q) pin_own
  · cases ec : cs.lookup c with
    | none => rw [unlend_out ec]; exact q
    | some oc => rw [l c oc ec] at q; exact absurd (Option.some.inj q) pin_tup
/-- .. with what is lent again -/
theorem hok_lend {P : Program} {w : World} {cs : Cells} {H : Hp} {h : Heap} (x : HOk P w H h) (hc : ∀ b o, cs.lookup b = some o → h.get? b = some o) (hn : ∀ b o, cs.lookup b = some o → H b = none) : HOk P w (lend cs H) h := fun b o e => by
  cases eb : cs.lookup b with
  | some ob =>
    rw [lend_in eb] at e
    obtain rfl := Option.some.inj e
    exact pin_ok (hc b ob eb)
  | none =>
    rw [lend_out eb] at e
    refine (x b o e).stay (fun c u _ q => q) (fun c q => ?_) fun c xs q => ?_
    · cases ec : cs.lookup c with
      | none => rw [lend_out ec]; exact q
      | some oc => rw [hn c oc ec] at q; cases q
    · cases ec : cs.lookup c with
      | none => rw [lend_out ec]; exact q
      | some oc => rw [hn c oc ec] at q; cases q
/-- the cells are not known otherwise -/
def NoC (cs : Cells) (H : Hp) : Prop := ∀ b o, cs.lookup b = some o → H b = none
/-! #### within: from the heap with the cells known to the one without -/
section
variable {P : Program} {w : World} {K : PySem.W.Frag} {mg : Str → Option Value} {base : Heap} {A : Around} {outer : List Env} {s s' : Shared} {H H' : Hp} {cs : Cells} {Q : VK} {E : XK} {u : Value}
theorem env0_unlend (e0 : Env0 P w K mg base A outer s H) (l : Lent cs H) : Env0 P w K mg base A outer s (unlend cs H) :=
  ⟨e0.frames, e0.mod, fun b o e => ⟨(e0.bs b o e).1, unlend_none (e0.bs b o e).2⟩, e0.bsz, e0.funs, fun b hb => unlend_none (e0.frf b hb), hok_unlend e0.hok l, e0.bare⟩
theorem ce_lend (e0 : Env0 P w K mg base A outer s H) (l : Lent cs H) (c : CE outer P w (unlend cs H) s (fun v H1 => NoC cs H1 → Q v (lend cs H1)) u s') : CE outer P w H s Q u s' := by
  obtain ⟨v, H1, os, bare, un, hok, rv, q⟩ := c
  have inf : ∀ b o, cs.lookup b = some o → b ∉ frs outer := fun b o e hb => by
    have z := e0.frf b hb
    rw [l b o e] at z
    cases z
  have kc : ∀ b o, cs.lookup b = some o → s'.heap.get? b = some o ∧ H1 b = none := fun b o e => by
    have z := pin_at e0.hok (l b o e)
    exact ⟨un.keep b o z (unlend_in e) (inf b o e) (by simp), un.free b o z (unlend_in e) (by simp)⟩
  refine ⟨v, lend cs H1, os, bare, ?_, hok_lend hok (fun b o e => (kc b o e).1) (fun b o e => (kc b o e).2), rv, q fun b o e => (kc b o e).2⟩
  have out : ∀ b, H b = none → cs.lookup b = none := fun b n => by
    cases e : cs.lookup b with
    | none => rfl
    | some o => rw [l b o e] at n; cases n
  exact {
    keep := fun b o e n hb hx => un.keep b o e (unlend_none n) hb hx
    slot := fun b o e n hb hx => un.slot b o e (unlend_none n) hb hx
    free := fun b o e n hx => by rw [lend_out (out b n)]; exact un.free b o e (unlend_none n) hx
    there := un.there
    tups := fun b xs q => by
      cases e : cs.lookup b with
      | some o => rw [l b o e] at q; exact absurd (Option.some.inj q) pin_tup
      | none => rw [lend_out e]; exact un.tups b xs (by rw [unlend_out e]; exact q)
    frzs := fun b ob v q => by
      cases e : cs.lookup b with
      | some o => rw [l b o e] at q; exact absurd (Option.some.inj q) pin_frz
      | none => rw [lend_out e]; exact un.frzs b ob v (by rw [unlend_out e]; exact q)
    tbls := fun b ps q => by
      cases e : cs.lookup b with
      | some o => rw [l b o e] at q; exact absurd (Option.some.inj q) pin_tbl
      | none => rw [lend_out e]; exact un.tbls b ps (by rw [unlend_out e]; exact q) }
theorem cx_lend (e0 : Env0 P w K mg base A outer s H) (l : Lent cs H) (c : L2.CX P w outer (unlend cs H) s (fun cls d H1 => NoC cs H1 → E cls d (lend cs H1)) u s') : L2.CX P w outer H s E u s' := by
  obtain ⟨a, B, H1, cls, d, ea, fl, hok, ub, na, os, bare, q⟩ := c
  have inf : ∀ b o, cs.lookup b = some o → b ∉ frs outer := fun b o e hb => by
    have z := e0.frf b hb
    rw [l b o e] at z
    cases z
  have kc : ∀ b o, cs.lookup b = some o → B.get? b = some o ∧ H1 b = none := fun b o e => by
    have z := pin_at e0.hok (l b o e)
    exact ⟨ub.keep b o z (unlend_in e) (inf b o e), ub.free b o z (unlend_in e)⟩
  have out : ∀ b, H b = none → cs.lookup b = none := fun b n => by
    cases e : cs.lookup b with
    | none => rfl
    | some o => rw [l b o e] at n; cases n
  have ac : cs.lookup a = none := by
    cases e : cs.lookup a with
    | none => rfl
    | some o =>
      have z := (kc a o e).1
      rw [fl.2.1] at z
      cases z
  refine ⟨a, B, lend cs H1, cls, d, ea, fl, hok_lend hok (fun b o e => (kc b o e).1) (fun b o e => (kc b o e).2), ?_, by rw [lend_out ac]; exact na, os, bare, q fun b o e => (kc b o e).2⟩
  exact {
    keep := fun b o e n hb => ub.keep b o e (unlend_none n) hb
    slot := fun b o e hb => ub.slot b o e hb
    free := fun b o e n => by rw [lend_out (out b n)]; exact ub.free b o e (unlend_none n)
    there := fun b o e hb => ub.there b o e hb
    tups := fun b xs q => by
      cases e : cs.lookup b with
      | some o => rw [l b o e] at q; exact absurd (Option.some.inj q) pin_tup
      | none => rw [lend_out e]; exact ub.tups b xs (by rw [unlend_out e]; exact q)
    frzs := fun b ob v q => by
      cases e : cs.lookup b with
      | some o => rw [l b o e] at q; exact absurd (Option.some.inj q) pin_frz
      | none => rw [lend_out e]; exact ub.frzs b ob v (by rw [unlend_out e]; exact q)
    tbls := fun b ps q => by
      cases e : cs.lookup b with
      | some o => rw [l b o e] at q; exact absurd (Option.some.inj q) pin_tbl
      | none => rw [lend_out e]; exact ub.tbls b ps (by rw [unlend_out e]; exact q) }
end
/-! ### a lambda called -/
/-- calling f() keeps the promise t -/
structure LamOk (P : Program) (w : World) (K : PySem.W.Frag) (mg : Str → Option Value) (base : Heap) (k : Nat) (f : Addr) (t : Hp → VK → XK → Prop) : Prop where
  run : ∀ (A : Around) (outer : List Env) (s : Shared) (H : Hp) (Q : VK) (E : XK), Room k A → Env0 P w K mg base A outer s H → t H Q E → codeAny (model P w) A (.call (.ref f) ⟨[], []⟩) (CR (L2.CX P w) outer P w H s Q E) s
theorem LamOk.mono {P : Program} {w : World} {K : PySem.W.Frag} {mg : Str → Option Value} {base : Heap} {j k : Nat} {f : Addr} {t : Hp → VK → XK → Prop} (L : LamOk P w K mg base j f t) (h : j ≤ k) : LamOk P w K mg base k f t :=
  ⟨fun A outer s H Q E hr e0 z => L.run A outer s H Q E (hr.mono h) e0 z⟩
abbrev LF.nf (F : LF) : NF := ⟨"<lambda>", F.qual, F.params, [], F.scope, F.cl, F.c⟩
/-- what the captured cells hold, told by the cells that are lent -/
structure LentFor (cl : List (Str × Addr)) (fr : List Str) (ws : List (Option V)) (cs : Cells) : Prop where
  len : ws.length = fr.length
  all : ∀ y c, cl.lookup y = some c → ∃ o v, cs.lookup c = some o ∧ o.data = .cell v
  inj : ∀ x y c, cl.lookup x = some c → cl.lookup y = some c → x = y
  has : ∀ (i : Nat) (y : Str), fr[i]? = some y → ∃ c, cl.lookup y = some c ∧ ∀ v, ws[i]? = some (some v) → ∃ o u, cs.lookup c = some o ∧ o.data = .cell (some u) ∧ L2.RelV v u
/-- the defaults bind the parameters -/
def LBinds (F : LF) (ps : List Str) (vs : List V) (H : Hp) : Prop := (F.dv = .none ∧ vs = [] ∧ ps = [] ∧ ∀ pm ctv, bindArgs (F.fd pm ctv) ⟨[], []⟩ = pure []) ∨
  ∃ tp, F.dv = .ref tp ∧ H tp = some (.tup vs) ∧ vs.length = ps.length ∧ ∀ (pm ctv : Value) (its : List Value), its.length = ps.length → ∃ k, bindArgs (F.fd pm ctv) ⟨[], []⟩ = seqItems? (.ref tp) >>= k ∧ k (some its.toArray) = pure (ps.zip its)
/-- the promise of a lambda -/
def tLamRun (f : Addr) (F : LF) (N ps fr : List Str) (vs : List V) (tb : XK → TE) : Hp → VK → XK → Prop := fun H Q E => H f = some (LamO f F) ∧ H F.c = some (CodeO F.c F.qual) ∧ LBinds F ps vs H ∧ ∃ (cs : Cells) (ws : List (Option V)), Lent cs H ∧ LentFor F.cl fr ws cs ∧
  tb (fun cls d H1 => NoC cs H1 → E cls d (lend cs H1)) (startF N vs ws) (unlend cs H) (fun v H1 => NoC cs H1 → Q v (lend cs H1))
theorem lam_ok {P : Program} {w : World} {K : PySem.W.Frag} {mg : Str → Option Value} {base : Heap} {k : Nat} {f : Addr} {F : LF} {N ps fr : List Str} {vs : List V} {tb : XK → TE} (S : NScope N ps fr F.scope) (hl0 : vs.length = ps.length)
    (hbody : ∀ (A : Around) (outer : List Env) (s : Shared) (H : Hp) (E : XK), Room k (A.deeper (envF F.nf f s.heap.objs.size)) → PE (ncx (L2.CX P w) P w K mg base N F.nf f A outer s H E) F.body (tb E)) :
    LamOk P w K mg base (k + 1) f (tLamRun f F N ps fr vs tb) := by
  refine ⟨fun A outer s H Q E hr e0 h => ?_⟩
  obtain ⟨hf, hc, hB, cs, ws, lt, lf, ht⟩ := h
  obtain ⟨pm, ctv, hof⟩ := lamO_at e0.hok hf
  have rc := codeO_at e0.hok hc
  have lim : s.heap.NoLimit := e0.mod.nolimit.keeps fun b o e => (e0.bs b o e).1
  have e1 := env0_unlend e0 lt
  have C : CellsAt F.cl fr ws s.heap (unlend cs H) := ⟨lf.len, fun y c e => by
      obtain ⟨o, v, e2, e3⟩ := lf.all y c e
      exact ⟨unlend_in e2, v, o, pin_at e0.hok (lt c o e2), e3⟩, lf.inj, fun i y e => by
      obtain ⟨c, e2, e3⟩ := lf.has i y e
      refine ⟨c, e2, fun v e4 => ?_⟩
      obtain ⟨o, u, e5, e6, e7⟩ := e3 v e4
      exact ⟨u, e7, o, pin_at e0.hok (lt c o e5), e6⟩⟩
  -- the call, once the parameters are bound
  have go : ∀ us : List Value, Vals vs us → codeAny (model P w) A (.expr F.body (envF F.nf f s.heap.objs.size)) (CR (L2.CX P w) outer P w H s Q E) s → True := fun _ _ _ => trivial
  have fin : ∀ (us : List Value) (h₁ : Heap) (tk : Nat), Vals vs us → h₁.Ns s.heap.objs.size (fun y => (ps.zip us).reverse.lookup y) → (∀ b o, s.heap.get? b = some o → h₁.get? b = some o) →
      codeAny (model P w) A (.expr F.body (envF F.nf f s.heap.objs.size)) (CR (L2.CX P w) outer P w H s Q E) { s with heap := h₁, toks := tk } := fun us h₁ tk r hns kp => by
    have I : Inv (ncx (L2.CX P w) P w K mg base N F.nf f A outer s (unlend cs H) (fun cls d H1 => NoC cs H1 → E cls d (lend cs H1))) [] (startF N vs ws) (unlend cs H) { s with heap := h₁, toks := tk } := inv_startN S hr.hd e1 hl0 r C hns kp
    refine PySem.W.kla_codeExpr (wpAny_mono ((hbody A outer s (unlend cs H) _ (hr.deeper _)).run [] _ _ _ _ I ht) (fun v s2 hq => ?_) fun e s2 hq => ?_)
    · obtain ⟨v', H', J, rv, q⟩ := hq
      exact ce_lend e0 lt ⟨v', H', J.os, J.bare, J.base, J.hok, rv, q⟩
    · exact wpAny_mono hq (fun _ s3 z => cx_lend e0 lt z) fun e3 s3 z => cx_lend e0 lt z
  refine PySem.W.kla_callFunE (fd := F.fd pm ctv) hr.depth hof rfl S.co S.gen rfl rc ?_
  rcases hB with ⟨ed, rfl, rfl, hb⟩ | ⟨tp, ed, htp, hvl, hb⟩
  · rw [hb pm ctv]
    refine wpAny_pure (wpAny_newFunctionEnv S.nocell (fun y hy => absurd hy (by simp)) (fun h₁ hns hsb => ⟨lim.fresh _ hsb, ?_⟩) S.kind)
    exact fin [] h₁ _ .nil hns fun b o e => hsb.extBut b o (Nat.ne_of_lt (Heap.lt_size e)) (Heap.get?_push_of_some _ e)
  · obtain ⟨hz, its, rv, ⟨ot, hot, hcl, n, hd⟩⟩ := e0.hok tp _ htp
    have hil : its.length = ps.length := by rw [← rv.length]; exact hvl
    obtain ⟨kk, b1, b2⟩ := hb pm ctv its hil
    rw [b1]
    refine wpAny_bind (wpAny_seqItems hot hd ?_)
    rw [b2]
    refine wpAny_pure (wpAny_newFunctionEnv S.nocell (fun ⟨y, v⟩ hy => S.par y (List.of_mem_zip hy).1) (fun h₁ hns hsb => ⟨lim.fresh _ hsb, ?_⟩) S.kind)
    exact fin its h₁ _ rv hns fun b o e => hsb.extBut b o (Nat.ne_of_lt (Heap.lt_size e)) (Heap.get?_push_of_some _ e)
/-- x() in a def that got the lambda -/
def tCallLam (i : Nat) (S : Addr → (Hp → VK → XK → Prop) → Prop) (W : WX) : TE := fun σ H Q => ∃ f t, σ[i]? = some (some (.ref f)) ∧ S f t ∧ t H Q fun cls d H' => W cls d σ H'
theorem pe_callLam {P : Program} {w : World} {K : PySem.W.Frag} {mg : Str → Option Value} {base : Heap} {j k i : Nat} {X : Cx} {NS WS : List (Str × Nat)} {G : List Str} {x : Str} {W : WX} {p pos : Pos} (h : Nm P w K mg base j X NS WS G) (hx : (x, i) ∈ NS) (hk : k ≤ j) (tk : Takes X W)
    (hf : ∀ (f : Addr) (H : Hp), (∃ F : LF, H f = some (LamO f F)) → True := fun _ _ _ => trivial) :
    PE X (.Call (.Name x p) [] [] pos) (tCallLam i (fun f t => LamOk P w K mg base k f t ∧ ∀ H Q E, t H Q E → ∃ F : LF, H f = some (LamO f F)) W) := by
  have nv := n_v (pos := p) h hx
  obtain ⟨h1, h2, h3, h4, h5, hr, _, _, _, _, hgl⟩ := h
  subst h1 h2 h3 h4 h5
  refine ⟨fun pins s σ H Q I hh => ?_⟩
  obtain ⟨f, t, hs, ⟨L, hF⟩, ht⟩ := hh
  refine wpAny_Call_Name_kw (thn (nv.run pins s σ H (fun v H1 => v = .ref f ∧ H1 = H) I ⟨.ref f, hs, rfl, rfl⟩) fun u s1 ⟨v, H1, I1, r1, q1⟩ => ?_)
  obtain ⟨ev, eH⟩ := q1
  subst ev
  subst eH
  obtain rfl : u = Value.ref f := r1
  obtain ⟨F, hFf⟩ := hF _ _ _ ht
  obtain ⟨pm, ctv, hof⟩ := lamO_at I1.hok hFf
  refine PySem.W.callWith_F0 ⟨_, _, _, _, hof⟩ ?_
  refine wpAny_call (codeAny_mono (L.run X.A X.stack s1 H1 Q (fun cls d H' => W cls d σ H') (hr.mono hk) I1.env0 ht) fun r s2 hq => ?_)
  cases r with
  | error e => exact tk e s2 (XE.of_call I1 (fun cls d H3 z => z) hq)
  | ok fl =>
    cases fl with
    | ret u => exact I1.after hq
    | next => exact False.elim hq
    | brk => exact False.elim hq
    | cont => exact False.elim hq
end Tw
namespace Tw
open PySem PySem.Spec PyProof.Rows L2 LamX NdefX
/-! ### a call to which the caller's cells are lent -/
structure LentOf (ce : List (Str × Addr)) (N : List Str) (sc : Scope) (σ : L2.St) (cs : Cells) (H : Hp) : Prop where
  free : ∀ b o, cs.lookup b = some o → H b = none
  all : ∀ y c, ce.lookup y = some c → ∃ o v, cs.lookup c = some o ∧ o.data = .cell v
  inj : ∀ x y c, ce.lookup x = some c → ce.lookup y = some c → x = y
  val : ∀ (i : Nat) (y : Str) (v : V), N[i]? = some y → σ[i]? = some (some v) → sc.names.lookup y = some .cell → ∃ c o u, ce.lookup y = some c ∧ cs.lookup c = some o ∧ o.data = .cell (some u) ∧ L2.RelV v u
  has : ∀ y, sc.names.lookup y = some .cell → ∃ c, ce.lookup y = some c
/-- the objects of all cells -/
def cellsOf (h : Heap) (ce : List (Str × Addr)) : Cells := ce.filterMap fun p => (h.get? p.2).map fun o => (p.2, o)
theorem cellsOf_at {h : Heap} {b : Addr} {o : Obj} : ∀ {ce : List (Str × Addr)}, (cellsOf h ce).lookup b = some o → h.get? b = some o ∧ ∃ p ∈ ce, p.2 = b
  | [], e => nomatch (show (none : Option Obj) = some o from e)
  | p :: r, e => by
    unfold cellsOf at e
    cases hp : h.get? p.2 with
    | none =>
      rw [List.filterMap_cons, hp] at e
      obtain ⟨h1, q, h2, h3⟩ := cellsOf_at (ce := r) e
      exact ⟨h1, q, List.mem_cons_of_mem _ h2, h3⟩
    | some op =>
      rw [List.filterMap_cons, hp] at e
      have e2 : (match b == p.2 with | true => some op | false => (cellsOf h r).lookup b) = some o := e
      cases q : (b == p.2) with
      | true =>
        rw [q] at e2
        have eo : op = o := Option.some.inj e2
        have eb : b = p.2 := beq_iff_eq.mp q
        exact ⟨by rw [eb, hp, eo], p, List.mem_cons_self, eb.symm⟩
      | false =>
        rw [q] at e2
        obtain ⟨h1, z, h2, h3⟩ := cellsOf_at (ce := r) e2
        exact ⟨h1, z, List.mem_cons_of_mem _ h2, h3⟩
theorem cellsOf_has {h : Heap} {c : Addr} {o : Obj} (ho : h.get? c = some o) : ∀ {ce : List (Str × Addr)}, (∃ p ∈ ce, p.2 = c) → (cellsOf h ce).lookup c = some o
  | [], hh => by obtain ⟨p, hp, _⟩ := hh; cases hp
  | p :: r, hh => by
    unfold cellsOf
    by_cases e : p.2 = c
    · rw [List.filterMap_cons, e, ho]
      show (match c == c with | true => some o | false => _) = some o
      rw [beq_self_eq_true]
    · have hr : ∃ q ∈ r, q.2 = c := by
        obtain ⟨q, hq, hc⟩ := hh
        rcases List.mem_cons.mp hq with z | z
        · rw [z] at hc; exact absurd hc e
        · exact ⟨q, z, hc⟩
      have ih := cellsOf_has ho hr
      cases hp : h.get? p.2 with
      | none => rw [List.filterMap_cons, hp]; exact ih
      | some op =>
        rw [List.filterMap_cons, hp]
        show (match c == p.2 with | true => some op | false => (cellsOf h r).lookup c) = some o
        have ne : (c == p.2) = false := beq_eq_false_iff_ne.mpr (Ne.symm e)
        rw [ne]
        exact ih
/-- each cell of the frame by name (no name twice) -/
def UniqNames (ce : List (Str × Addr)) : Prop := ∀ p ∈ ce, ce.lookup p.1 = some p.2
section
variable {X : Cx} {pins : List (Addr × Obj)} {σ : L2.St} {H : Hp} {s : Shared}
theorem lent_of (I : Inv X pins σ H s) (hu : UniqNames X.env.cells) : LentOf X.env.cells X.N X.env.scope σ (cellsOf s.heap X.env.cells) H ∧ (∀ b o, (cellsOf s.heap X.env.cells).lookup b = some o → s.heap.get? b = some o ∧ ∃ y, X.env.cells.lookup y = some b) := by
  have key : ∀ b o, (cellsOf s.heap X.env.cells).lookup b = some o → s.heap.get? b = some o ∧ ∃ y, X.env.cells.lookup y = some b := fun b o e => by
    obtain ⟨h1, p, h2, h3⟩ := cellsOf_at e
    exact ⟨h1, p.1, by rw [← h3]; exact hu p h2⟩
  have mem : ∀ {y c}, X.env.cells.lookup y = some c → ∃ p ∈ X.env.cells, p.2 = c := fun {y c} e => ⟨(y, c), PySem.mem_of_lookup e, rfl⟩
  refine ⟨⟨fun b o e => ?_, fun y c e => ?_, I.ok.inj, fun i y v h1 h2 h3 => ?_, fun y h => I.ok.has y (.inl h)⟩, key⟩
  · obtain ⟨_, y, hy⟩ := key b o e
    exact I.freeC y b hy
  · obtain ⟨v, o, ho, hd⟩ := I.cell y c e
    exact ⟨o, v, cellsOf_has ho (mem e), hd⟩
  · obtain ⟨m, hn, hl⟩ := I.loc
    obtain ⟨u, ru, q⟩ := hl i y v h1 h2 (.inr (.inl h3))
    rcases q with ⟨k, _⟩ | ⟨_, c, e, o, ho, hd⟩
    · have k' : X.env.scope.names.lookup y = some .local := k
      rw [h3] at k'
      cases k'
    · exact ⟨c, o, u, e, cellsOf_has ho (mem e), hd, ru⟩
theorem env0_lend (I : Inv X pins σ H s) (hfn : ∀ y, X.fn y = true) {cs : Cells} (hc : ∀ b o, cs.lookup b = some o → s.heap.get? b = some o ∧ ∃ y, X.env.cells.lookup y = some b) : Env0 X.prog X.w X.K X.mg X.base X.A X.stack s (lend cs H) := by
  have e0 := I.env0
  have above : ∀ b o, cs.lookup b = some o → X.s_0.heap.objs.size ≤ b := fun b o e => by
    obtain ⟨_, y, hy⟩ := hc b o e
    exact I.ok.cab y b (hfn y) hy
  have nobase : ∀ b o, X.base.get? b = some o → cs.lookup b = none := fun b o e => by
    cases q : cs.lookup b with
    | none => rfl
    | some ob =>
      have z := above b ob q
      have z2 := Heap.lt_size (I.ok.bs b o e).1
      exact absurd (Nat.lt_of_lt_of_le z2 z) (Nat.lt_irrefl _)
  have nofr : ∀ b, b ∈ frs X.stack → cs.lookup b = none := fun b hb => by
    cases q : cs.lookup b with
    | none => rfl
    | some ob =>
      obtain ⟨_, y, hy⟩ := hc b ob q
      rcases List.mem_cons.mp (I.stkSub b hb) with z | z
      · exact absurd z (I.cne y b hy)
      · obtain ⟨_, o, ho, _⟩ := I.ok.funs.mem z
        exact absurd (Nat.lt_of_lt_of_le (Heap.lt_size ho) (above b ob q)) (Nat.lt_irrefl _)
  refine ⟨e0.frames, e0.mod, fun b o e => ⟨(e0.bs b o e).1, by rw [lend_out (nobase b o e)]; exact (e0.bs b o e).2⟩, e0.bsz, e0.funs, fun b hb => by rw [lend_out (nofr b hb)]; exact e0.frf b hb, hok_lend e0.hok (fun b o e => (hc b o e).1) fun b o e => ?_, e0.bare⟩
  obtain ⟨_, y, hy⟩ := hc b o e
  exact I.freeC y b hy
theorem ce_unlend (I : Inv X pins σ H s) (hfn : ∀ y, X.fn y = true) {cs : Cells} {Q : VK} {u : Value} {s' : Shared} (hc : ∀ b o, cs.lookup b = some o → s.heap.get? b = some o ∧ ∃ y, X.env.cells.lookup y = some b)
    (c : CE X.stack X.prog X.w (lend cs H) s (fun v H2 => Lent cs H2 ∧ Q v (unlend cs H2)) u s') : CE X.stack X.prog X.w H s Q u s' := by
  obtain ⟨v, H2, os, bare, un, hok, rv, lt, q⟩ := c
  have fr : ∀ b o, cs.lookup b = some o → H b = none := fun b o e => by
    obtain ⟨_, y, hy⟩ := hc b o e
    exact I.freeC y b hy
  have some_out : ∀ b o, H b = some o → cs.lookup b = none := fun b o e => by
    cases q : cs.lookup b with
    | none => rfl
    | some ob => rw [fr b ob q] at e; cases e
  have nofr : ∀ b, b ∈ frs X.stack → cs.lookup b = none := fun b hb => by
    cases q : cs.lookup b with
    | none => rfl
    | some ob =>
      obtain ⟨_, y, hy⟩ := hc b ob q
      rcases List.mem_cons.mp (I.stkSub b hb) with z | z
      · exact absurd z (I.cne y b hy)
      · obtain ⟨_, o, ho, _⟩ := I.ok.funs.mem z
        exact absurd (Nat.lt_of_lt_of_le (Heap.lt_size ho) (I.ok.cab y b (hfn y) hy)) (Nat.lt_irrefl _)
  refine ⟨v, unlend cs H2, os, bare, ?_, hok_unlend hok lt, rv, q⟩
  exact {
    keep := fun b o e n hb hx => by
      cases q : cs.lookup b with
      | some ob =>
        have z := pin_at hok (lt b ob q)
        have z2 := (hc b ob q).1
        rw [e] at z2
        rw [z, ← Option.some.inj z2]
      | none => exact un.keep b o e (by rw [lend_out q]; exact n) hb hx
    slot := fun b o e n hb hx => un.slot b o e (by rw [lend_out (nofr b hb)]; exact n) hb hx
    free := fun b o e n hx => by
      cases q : cs.lookup b with
      | some ob => exact unlend_in q
      | none => exact unlend_none (un.free b o e (by rw [lend_out q]; exact n) hx)
    there := un.there
    tups := fun b xs e => by
      have q := some_out b _ e
      rw [unlend_out q]
      exact un.tups b xs (by rw [lend_out q]; exact e)
    frzs := fun b o v e => by
      have q := some_out b _ e
      rw [unlend_out q]
      exact un.frzs b o v (by rw [lend_out q]; exact e)
    tbls := fun b ps e => by
      have q := some_out b _ e
      rw [unlend_out q]
      exact un.tbls b ps (by rw [lend_out q]; exact e) }
end
/-- x(e, ..) with the cells lent -/
def tDl (ce : List (Str × Addr)) (N : List Str) (sc : Scope) (sp : Sp) (t : TA) : TE := fun σ H Q => t σ H fun vs H1 => ∀ cs, LentOf ce N sc σ cs H1 → sp vs (lend cs H1) (fun v H2 => Lent cs H2 ∧ Q v (unlend cs H2)) E0
section
variable {P : Program} {w : World} {K : PySem.W.Frag} {mg : Str → Option Value} {base : Heap} {j k : Nat} {X : Cx} {NS WS : List (Str × Nat)} {G : List Str} {x : Str} {ps : List Str} {sp : Sp} {e : Expr} {es : List Expr} {t : TA} {p pos : Pos}
theorem n_dL (h : Nm P w K mg base j X NS WS G) (D : Df P w K mg base k x ps sp) (hk : k ≤ j) (hg : x ∈ G) (ha : PA X (e :: es) t) (hfn : ∀ y, X.fn y = true) (hu : UniqNames X.env.cells)
    (he : starEach (e :: es) X.env = (false, eval e X.env) :: starEach es X.env := by rfl) (hpl : (backTo pos (starEach es X.env)).any (·.1) = false := by rfl) :
    PE X (.Call (.Name x p) (e :: es) [] pos) (tDl X.env.cells X.N X.env.scope sp t) := by
  obtain ⟨h1, h2, h3, h4, h5, hr, _, _, _, _, hgl⟩ := h
  subst h1 h2 h3 h4 h5
  obtain ⟨f, fd, hm, hkp, hb, F⟩ := D.ex
  refine ⟨fun pins s σ H Q I hh => ?_⟩
  refine wpAny_Call_Name_kw (ld_glob I (hgl x hg).1 hm ?_ (hgl x hg).2.1)
  refine PySem.W.callWith_K (h₀ := X.base) I.ok.mod.kin hkp (thn (ha.run pos pins s σ H _ I hh) fun us s1 ⟨vs, H1, I1, r, q⟩ => ⟨I1.kIn, ?_⟩) he hpl
  obtain ⟨L, hc⟩ := lent_of I1 hu
  have q1 := q _ L
  have hl : us.length = ps.length := by rw [← r.length]; exact F.len _ _ _ _ q1
  have hbt : BindsTo s1 fd ⟨us, []⟩ (ps.zip us) := by
    have z := hb s1 us I1.kIn (by rw [List.append_nil]; exact hl)
    rw [List.append_nil] at z
    exact z
  refine wpAny_call (codeAny_mono (F.run X.A X.stack s1 _ ⟨us, []⟩ us vs _ _ (hr.mono hk) (env0_lend I1 hfn hc) hbt r q1) fun rr s2 hq => ?_)
  cases rr with
  | error e => exact (show False from hq).elim
  | ok fl =>
    cases fl with
    | ret u => exact I1.after (ce_unlend I1 hfn hc hq)
    | next => exact False.elim hq
    | brk => exact False.elim hq
    | cont => exact False.elim hq
end
/-- what a lambda finds in the cells that are lent -/
theorem lent_for {ce : List (Str × Addr)} {N : List Str} {sc lsc : Scope} {σ : L2.St} {cs : Cells} {H : Hp} {fr : List Str} {is : List Nat} (L : LentOf ce N sc σ cs H) (hsc : ∀ y ∈ lsc.names, y.2 = .free → sc.names.lookup y.1 = some .cell)
    (hl : is.length = fr.length) (hfr : ∀ (j : Nat) (y : Str) (i : Nat), fr[j]? = some y → is[j]? = some i → N[i]? = some y ∧ lsc.names.lookup y = some .free) : LentFor (cloFrom ce lsc.names []) fr (is.map fun i => (σ[i]?).join) cs := by
  have cm : ∀ {y c}, (cloFrom ce lsc.names []).lookup y = some c → ce.lookup y = some c := fun {y c} e => by
    rcases cloFrom_mem (PySem.mem_of_lookup e) with hm | ⟨h1, h2⟩
    · cases hm
    · obtain ⟨c1, hc⟩ := L.has _ (hsc _ h1 rfl)
      have hc : ce.lookup y = some c1 := hc
      rw [hc] at h2
      have e2 : c = c1 := h2
      rw [e2]
      exact hc
  refine ⟨by simp [hl], fun y c e => L.all y c (cm e), fun x y c e1 e2 => L.inj x y c (cm e1) (cm e2), fun j y e => ?_⟩
  obtain ⟨i, hi⟩ : ∃ i, is[j]? = some i := by
    have hj := (List.getElem?_eq_some_iff.mp e).1
    exact ⟨is[j], List.getElem?_eq_getElem (by omega)⟩
  obtain ⟨hN, hF⟩ := hfr j y i e hi
  have hm := PySem.mem_of_lookup hF
  obtain ⟨c, hc⟩ := mem_lookup (cloFrom_has (cells := ce) (acc := []) hm)
  refine ⟨c, hc, fun v hv => ?_⟩
  rw [List.getElem?_map, hi] at hv
  have hv2 : (σ[i]?).join = some v := Option.some.inj hv
  have hv3 : σ[i]? = some (some v) := by
    cases q : σ[i]? with
    | none => rw [q] at hv2; cases hv2
    | some z => rw [q] at hv2; exact congrArg some hv2
  obtain ⟨c2, o, u, e1, e2, e3, e4⟩ := L.val i y v hN hv3 (hsc _ hm rfl)
  have e5 := cm hc
  rw [e5] at e1
  cases e1
  exact ⟨o, u, e2, e3, e4⟩
/-! data are no cells -/
theorem sqL_unlend {K : PySem.W.Frag} {H : Hp} {cs : Cells} {a : Addr} {xs : List V} (l : Lent cs H) (h : SqL K H a xs) : SqL K (unlend cs H) a xs := by
  have out : ∀ o, H a = some o → (∀ ob, o ≠ PinO a ob) → unlend cs H a = some o := fun o e n => by
    cases q : cs.lookup a with
    | none => rw [unlend_out q]; exact e
    | some ob => rw [l a ob q] at e; exact absurd (Option.some.inj e).symm (n ob)
  rcases h with (h | ⟨o, h⟩) | h
  · exact .inl (.inl (out _ h fun ob z => by have z' : HO.lst xs = HO.ext _ := z; cases z'))
  · exact .inl (.inr ⟨o, out _ h fun ob z => by have z' : HO.frz o _ = HO.ext _ := z; cases z'⟩)
  · exact .inr h
theorem sqT_unlend {K : PySem.W.Frag} {H : Hp} {cs : Cells} {a : Addr} {xs : List V} (l : Lent cs H) (h : SqT K H a xs) : SqT K (unlend cs H) a xs := by
  have out : ∀ o, H a = some o → (∀ ob, o ≠ PinO a ob) → unlend cs H a = some o := fun o e n => by
    cases q : cs.lookup a with
    | none => rw [unlend_out q]; exact e
    | some ob => rw [l a ob q] at e; exact absurd (Option.some.inj e).symm (n ob)
  rcases h with (h | ⟨o, h⟩) | h
  · exact .inl (.inl (out _ h fun ob z => by have z' : HO.tup xs = HO.ext _ := z; cases z'))
  · exact .inl (.inr ⟨o, out _ h fun ob z => by have z' : HO.frz o _ = HO.ext _ := z; cases z'⟩)
  · exact .inr h
mutual
theorem dp_unlend {K : PySem.W.Frag} {H : Hp} {cs : Cells} (l : Lent cs H) : ∀ (d : PyData) (v : V), Dp K H v d → Dp K (unlend cs H) v d
  | .none, _, h => by cases h; exact .non
  | .bool b, _, h => by cases h; exact .bl b
  | .int i, _, h => by cases h; exact .int i
  | .str x, _, h => by cases h; exact .str x
  | .list ds, _, h => by
    cases h with
    | lst hs ha => exact .lst (sqL_unlend l hs) (dpAll_unlend l ds _ ha)
  | .tuple ds, _, h => by
    cases h with
    | tup hs ha => exact .tup (sqT_unlend l hs) (dpAll_unlend l ds _ ha)
theorem dpAll_unlend {K : PySem.W.Frag} {H : Hp} {cs : Cells} (l : Lent cs H) : ∀ (ds : List PyData) (vs : List V), DpAll K H vs ds → DpAll K (unlend cs H) vs ds
  | [], _, h => by cases h; exact .nil
  | d :: ds, _, h => by
    cases h with
    | cons h1 h2 => exact .cons (dp_unlend l d _ h1) (dpAll_unlend l ds _ h2)
end
theorem same_lend {cs : Cells} {H : Hp} (h : ∀ b o, cs.lookup b = some o → H b = none) : Same H (lend cs H) := fun b o e => by
  cases q : cs.lookup b with
  | none => rw [lend_out q]; exact e
  | some ob => rw [h b ob q] at e; cases e
/-- what stays over a lent call -/
theorem same_over {cs : Cells} {H H2 : Hp} (h : ∀ b o, cs.lookup b = some o → H b = none) (e : Same (lend cs H) H2) : Same H (unlend cs H2) := fun b o z => by
  cases q : cs.lookup b with
  | none => rw [unlend_out q]; exact e b o (by rw [lend_out q]; exact z)
  | some ob => rw [h b ob q] at z; cases z
theorem lend_unlend_same {cs : Cells} {H H2 : Hp} (l : Lent cs H) (e : Same (unlend cs H) H2) : Same H (lend cs H2) := fun b o z => by
  cases q : cs.lookup b with
  | none => rw [lend_out q]; exact e b o (by rw [unlend_out q]; exact z)
  | some ob => rw [lend_in q, ← l b ob q]; exact z
/-! the names of a lambda's body -/
def nmfB (N : List Str) (NS : List (Str × Nat)) (G : List Str) (sc : Scope) : Bool :=
  decide N.Nodup && NS.all (fun p => decide (N[p.2]? = some p.1) && (decide (sc.names.lookup p.1 = some .local) || decide (sc.names.lookup p.1 = some .free)) && !(p.1 == ("__debug__" : Str)) && !(p.1 == ("__classdict__" : Str)))
    && G.all (fun x => decide (sc.names.lookup x = some .globalImplicit) && !(x == ("__debug__" : Str)) && decide (x ≠ ("__name__" : Str)))
theorem nm_lam {CX : CXT} {P : Program} {w : World} {K : PySem.W.Frag} {mg : Str → Option Value} {base : Heap} {j : Nat} {N : List Str} {NS : List (Str × Nat)} {G : List Str} {F : NF} {f : Addr} {A : Around} {outer : List Env} {s : Shared} {H : Hp} {E : XK}
    (h : nmfB N NS G F.scope = true) (hr : Room j (A.deeper (envF F f s.heap.objs.size))) : Nm P w K mg base j (ncx CX P w K mg base N F f A outer s H E) NS [] G := by
  unfold nmfB at h
  simp only [Bool.and_eq_true, Bool.or_eq_true, Bool.not_eq_true', decide_eq_true_eq, List.all_eq_true] at h
  obtain ⟨⟨h1, h2⟩, h3⟩ := h
  refine ⟨rfl, rfl, rfl, rfl, rfl, hr, rfl, h1, fun x i hm => ?_, fun x i hm => absurd hm List.not_mem_nil, fun x hm => ?_⟩
  · obtain ⟨⟨⟨a, b⟩, c⟩, d⟩ := h2 (x, i) hm
    exact ⟨a, b.elim (fun z => .inl z) fun z => .inr (.inr z), c, d⟩
  · obtain ⟨⟨a, b⟩, c⟩ := h3 x hm
    exact ⟨a, b, c⟩
end Tw
namespace Tw
open PySem PySem.Spec PyProof.Rows L2 LamX NdefX
/-! ### what stays where only tables of code grow -/
theorem ext_lst {H H' : Hp} (e : ExtN H H') {a : Addr} {xs : List V} (h : H a = some (.lst xs)) : H' a = some (.lst xs) := e _ _ h fun ps z => by cases z
theorem ext_tup {H H' : Hp} (e : ExtN H H') {a : Addr} {xs : List V} (h : H a = some (.tup xs)) : H' a = some (.tup xs) := e _ _ h fun ps z => by cases z
theorem sqL_ext {K : PySem.W.Frag} {H H' : Hp} {a : Addr} {xs : List V} (e : ExtN H H') (h : SqL K H a xs) : SqL K H' a xs := by
  rcases h with (h | ⟨o, h⟩) | h
  · exact .inl (.inl (ext_lst e h))
  · exact .inl (.inr ⟨o, e _ _ h fun ps z => by cases z⟩)
  · exact .inr h
theorem sqT_ext {K : PySem.W.Frag} {H H' : Hp} {a : Addr} {xs : List V} (e : ExtN H H') (h : SqT K H a xs) : SqT K H' a xs := by
  rcases h with (h | ⟨o, h⟩) | h
  · exact .inl (.inl (ext_tup e h))
  · exact .inl (.inr ⟨o, e _ _ h fun ps z => by cases z⟩)
  · exact .inr h
mutual
theorem dp_ext {K : PySem.W.Frag} {H H' : Hp} (l : ExtN H H') : ∀ (d : PyData) (v : V), Dp K H v d → Dp K H' v d
  | .none, _, h => by cases h; exact .non
  | .bool b, _, h => by cases h; exact .bl b
  | .int i, _, h => by cases h; exact .int i
  | .str x, _, h => by cases h; exact .str x
  | .list ds, _, h => by
    cases h with
    | lst hs ha => exact .lst (sqL_ext l hs) (dpAll_ext l ds _ ha)
  | .tuple ds, _, h => by
    cases h with
    | tup hs ha => exact .tup (sqT_ext l hs) (dpAll_ext l ds _ ha)
theorem dpAll_ext {K : PySem.W.Frag} {H H' : Hp} (l : ExtN H H') : ∀ (ds : List PyData) (vs : List V), DpAll K H vs ds → DpAll K H' vs ds
  | [], _, h => by cases h; exact .nil
  | d :: ds, _, h => by
    cases h with
    | cons h1 h2 => exact .cons (dp_ext l d _ h1) (dpAll_ext l ds _ h2)
end
theorem Bag.ext {H H' : Hp} {b l : Addr} (h : Bag H b l) (e : ExtN H H') : Bag H' b l := by
  obtain ⟨i, r, m, t, ns, h1, h2, h3⟩ := h
  exact ⟨i, r, m, t, ns, ext_lst e h1, ext_lst e h2, h3⟩
theorem ext_same {H H' : Hp} (e : Same H H') : ExtN H H' := fun b o h _ => e b o h
theorem tabs_same {T : List NTab} {H H' : Hp} (t : TabsN T H) (e : Same H H') : TabsN T H' := t.ext fun b o h => e b o h
theorem tabs_keep {T : List NTab} {H H' : Hp} {b l : Addr} (t : TabsN T H) (B : Bag H b l) (e : Keep b H H') : TabsN T H' := by
  obtain ⟨i, r, m, tt, ns, hb, _⟩ := B
  refine fun p hp => ?_
  obtain ⟨ps, h1, h2, h3⟩ := t p hp
  have ne : ∀ c o, H c = some o → (∀ xs, o ≠ .lst xs) → c ≠ b := fun c o h n z => by
    rw [z, hb] at h
    exact n _ (Option.some.inj h).symm
  refine ⟨ps, e _ _ (ne _ _ h1 fun xs z => by cases z) h1, h2, fun pos cv hc => ?_⟩
  obtain ⟨c, e1, e2⟩ := h3 pos cv hc
  refine ⟨c, e1, e _ _ (ne _ _ e2 fun xs z => ?_) e2⟩
  have z' : HO.ext _ = HO.lst xs := z
  cases z'
/-! ### data with few signs -/
theorem GoodD.up {n c c' : Nat} {d : PyData} (h : GoodD n d c) (hc : c ≤ c') : GoodD n d c' := by
  cases d with
  | none => cases n <;> exact Nat.le_trans h hc
  | bool b => cases n <;> exact Nat.le_trans h hc
  | int i => cases n <;> exact ⟨h.1, Nat.le_trans h.2 hc⟩
  | str x => cases n <;> exact ⟨h.1, Nat.le_trans h.2 hc⟩
  | dict ds => cases n <;> exact h.elim
  | list ds =>
    cases n with
    | zero => exact h.elim
    | succ n =>
      obtain ⟨h1, cs, h2, h3, h4⟩ := h
      exact ⟨h1, cs, h2, Nat.le_trans h3 hc, h4⟩
  | tuple ds =>
    cases n with
    | zero => exact h.elim
    | succ n =>
      obtain ⟨h1, cs, h2, h3, h4⟩ := h
      exact ⟨h1, cs, h2, Nat.le_trans h3 hc, h4⟩
theorem cost_rep (m : Nat) : ∀ n : Nat, cost (List.replicate n m) = n * (m + 2)
  | 0 => by simp [cost]
  | n + 1 => by
    rw [List.replicate_succ, cost_cons, cost_rep m n, Nat.add_mul, Nat.one_mul]
    omega
theorem good_tup {n m : Nat} {ds : List PyData} (hl : ds.length ≤ 1000) (h : ∀ d ∈ ds, GoodD n d m) : GoodD (n + 1) (.tuple ds) (ds.length * (m + 2) + 5) :=
  ⟨hl, List.replicate ds.length m, List.length_replicate, by rw [cost_rep]; exact Nat.le_refl _, fun i d k h1 h2 => by
    rw [List.getElem?_replicate] at h2
    split at h2
    · rw [← Option.some.inj h2]; exact h d (List.mem_of_getElem? h1)
    · cases h2⟩
theorem good_lst {n m : Nat} {ds : List PyData} (hl : ds.length ≤ 1000) (h : ∀ d ∈ ds, GoodD n d m) : GoodD (n + 1) (.list ds) (ds.length * (m + 2) + 5) :=
  ⟨hl, List.replicate ds.length m, List.length_replicate, by rw [cost_rep]; exact Nat.le_refl _, fun i d k h1 h2 => by
    rw [List.getElem?_replicate] at h2
    split at h2
    · rw [← Option.some.inj h2]; exact h d (List.mem_of_getElem? h1)
    · cases h2⟩
/-! cells of a frame, by name -/
theorem uniq_cells : ∀ (ns : List (Str × NameKind)) (n : Nat) (acc : List (Str × Addr)), (ns.map (·.1)).Nodup → (∀ p ∈ acc, p.1 ∉ ns.map (·.1)) → UniqNames acc → UniqNames (cellsFrom n ns acc)
  | [], _, _, _, _, h => h
  | (x, k) :: r, n, acc, nd, ha, h => by
    have nd2 : (x ∉ r.map (·.1)) ∧ (r.map (·.1)).Nodup := by simpa [List.nodup_cons] using nd
    show UniqNames (if (k == NameKind.cell) = true then cellsFrom (n + 1) r ((x, n) :: acc) else cellsFrom n r acc)
    split
    · refine uniq_cells r (n + 1) _ nd2.2 (fun p hp => ?_) fun p hp => ?_
      · rcases List.mem_cons.mp hp with z | z
        · rw [z]; exact nd2.1
        · exact fun q => ha p z (List.mem_cons_of_mem _ q)
      · rcases List.mem_cons.mp hp with z | z
        · rw [z]
          show (match x == x with | true => some n | false => _) = some n
          rw [beq_self_eq_true]
        · have ne : p.1 ≠ x := fun q => ha p z (by rw [q]; exact List.mem_cons_self ..)
          show (match p.1 == x with | true => some n | false => acc.lookup p.1) = some p.2
          rw [beq_eq_false_iff_ne.mpr ne]
          exact h p z
    · exact uniq_cells r n acc nd2.2 (fun p hp q => ha p hp (List.mem_cons_of_mem _ q)) h
theorem uniq_frame {sc : Scope} {n : Nat} (h : decide (sc.names.map (·.1)).Nodup = true) : UniqNames (cellsFrom n sc.names []) := uniq_cells _ _ _ (of_decide_eq_true h) (fun p hp => by cases hp) fun p hp => by cases hp
/-- what a lambda captures, checked -/
def lfB (N : List Str) (sc lsc : Scope) (fr : List Str) (is : List Nat) : Bool :=
  decide (is.length = fr.length) && lsc.names.all (fun y => !decide (y.2 = .free) || decide (sc.names.lookup y.1 = some .cell)) && (fr.zip is).all fun p => decide (N[p.2]? = some p.1) && decide (lsc.names.lookup p.1 = some .free)
theorem lent_by {ce : List (Str × Addr)} {N : List Str} {sc lsc : Scope} {σ : L2.St} {cs : Cells} {H : Hp} {fr : List Str} {is : List Nat} (h : lfB N sc lsc fr is = true) (L : LentOf ce N sc σ cs H) : LentFor (cloFrom ce lsc.names []) fr (is.map fun i => (σ[i]?).join) cs := by
  unfold lfB at h
  simp only [Bool.and_eq_true, decide_eq_true_eq, List.all_eq_true, Bool.or_eq_true, Bool.not_eq_true', decide_eq_false_iff_not] at h
  obtain ⟨⟨h1, h2⟩, h3⟩ := h
  refine lent_for L (fun y hy e => (h2 y hy).resolve_left fun n => n e) h1 fun j y i e1 e2 => ?_
  refine h3 (y, i) ?_
  have hz : (fr.zip is)[j]? = some (y, i) := by rw [List.getElem?_zip_eq_some]; exact ⟨e1, e2⟩
  exact List.mem_of_getElem? hz
/-! ### a call that is told not to raise, of a promise that may -/
theorem fn_from {P : Program} {w : World} {K : PySem.W.Frag} {mg : Str → Option Value} {base : Heap} {k : Nat} {f : Addr} {fd : FuncData} {ps : List Str} {sp sp' : Sp} (F : FnOk P w K mg base (L2.CX P w) k f fd ps sp) (h : ∀ vs H Q E, sp' vs H Q E → sp vs H Q E0) : FnOk P w K mg base CX0 k f fd ps sp' := by
  refine ⟨fun vs H Q E z => F.len _ _ _ _ (h _ _ _ _ z), fun A outer s H args us vs Q E hr e0 hb r z => ?_⟩
  refine codeAny_mono (F.run A outer s H args us vs Q E0 hr e0 hb r (h _ _ _ _ z)) fun r s' q => ?_
  cases r with
  | ok fl => cases fl <;> exact q
  | error e =>
    obtain ⟨_, _, _, _, _, _, _, _, _, _, _, _, z⟩ := (show L2.CX P w outer H s E0 e s' from q)
    exact z.elim
end Tw
namespace Tw
open PySem PySem.Spec PyProof.Rows L2
/-! ### error classes, by one look at the heap -/
def oexB (K : Fg) (C : Addr) : Bool := (match K.lookup C with
  | some ⟨ct, _, .cls cd, ⟨[_, _, _, _, k4, _]⟩⟩ => decide (ct = .type "type") && (match cd.mro with
    | .ref C' :: bm => decide (C' = C) && PySem.HandSPX.refsVE bm
    | _ => false) && cd.hasDict && !cd.hasDel && decide (k4 = some (.builtin "ValueError.__new__"))
  | _ => false) && (decide (PySem.W.findIn K (.ref C) "__setattr__" = some (some (.builtin "object.__setattr__"))) && (decide (PySem.W.subIn K (.ref C) (.type "BaseException") = some true) && (decide (PySem.W.typeIn K (.ref C) = some (.type "type")) && PySem.W.keepIn K (.ref C))))
theorem oexB_ok {K : Fg} {C : Addr} (h : oexB K C = true) : OexC K C := by
  unfold oexB at h
  rw [Bool.and_eq_true_iff, Bool.and_eq_true_iff, Bool.and_eq_true_iff, Bool.and_eq_true_iff] at h
  obtain ⟨h1, h2, h3, h4, h5⟩ := h
  refine ⟨?_, of_decide_eq_true h2, of_decide_eq_true h3, of_decide_eq_true h4, h5⟩
  split at h1
  · rename_i ct dd cd k0 k1 k2 k3 k4 k5 e
    rw [Bool.and_eq_true_iff, Bool.and_eq_true_iff, Bool.and_eq_true_iff, Bool.and_eq_true_iff] at h1
    obtain ⟨⟨⟨⟨a1, a2⟩, a3⟩, a4⟩, a5⟩ := h1
    obtain ⟨name, bases, mro, ns, qualname, hasDict, slotNames, subclasses, abstract, collection, hasDel⟩ := cd
    dsimp only at a2 a3 a4
    split at a2
    · rename_i C' bm
      rw [Bool.and_eq_true_iff] at a2
      have e1 := of_decide_eq_true a1
      have e2 := of_decide_eq_true a2.1
      have e5 := of_decide_eq_true a5
      have e4 : hasDel = false := by cases hasDel <;> first | rfl | cases a4
      subst e1 e2 e5 e4 a3
      exact ⟨_, _, _, _, _, _, _, _, _, _, _, _, _, _, _, e, a2.2⟩
    · cases a2
  · cases h1
def excB (K : Fg) (D : Addr) : Bool := decide (PySem.W.findIn K (.ref D) "__getattribute__" = some (some (.builtin "BaseException.__getattribute__"))) && (decide (PySem.W.findIn K (.ref D) "__getattr__" = some none) && (decide (PySem.W.subIn K (.ref D) (.type "BaseException") = some true) && (PySem.W.hasDictIn K D &&
  (decide (PySem.W.findIn K (.ref D) "__class__" = some (some (.builtin "object.__class__"))) && (decide (PySem.W.specialIn K (.builtin "object.__class__") "__get__" = some (some (.builtin "getset_descriptor.__get__"))) && (decide (PySem.W.takesIn K (.builtin "object.__class__") = some true) && decide (PySem.W.mroIn K D (.type "object") = some true)))))))
theorem excB_ok {K : Fg} {D : Addr} (h : excB K D = true) : ExcC K D ∧ XfC K D := by
  unfold excB at h
  simp only [Bool.and_eq_true_iff, decide_eq_true_eq] at h
  obtain ⟨h1, h2, h3, h4, h5, h6, h7, h8⟩ := h
  exact ⟨⟨h1, h2, h3, h4, h5, h6, h7, h8⟩, ⟨h1, h2, h3, h4⟩⟩
def nameB (K : Fg) (C : Addr) (nm : Str) : Bool := match K.lookup C with
  | some ⟨ct, _, _, ⟨_ :: _ :: some (.str z _) :: _⟩⟩ => decide (ct = .type "type") && decide (z = nm)
  | _ => false
def nmfB' (K : Fg) (C : Addr) : Bool := match PySem.W.findCls K (.ref C) (.type "type") "__name__" with
  | some (.get g v o t) => decide (g = .builtin "getset_descriptor.__get__") && (decide (v = .builtin "type.__name__") && (decide (o = .ref C) && decide (t = .type "type")))
  | _ => false
theorem nmfB'_ok {K : Fg} {C : Addr} (h : nmfB' K C = true) : PySem.W.findCls K (.ref C) (.type "type") "__name__" = some (.get (.builtin "getset_descriptor.__get__") (.builtin "type.__name__") (.ref C) (.type "type")) := by
  unfold nmfB' at h
  split at h
  · rename_i g v o t e
    simp only [Bool.and_eq_true_iff, decide_eq_true_eq] at h
    obtain ⟨rfl, rfl, rfl, rfl⟩ := h
    exact e
  · cases h
def errB (K : Fg) (C : Addr) (nm : Str) : Bool := excB K C && (nameB K C nm && (decide (PySem.W.nsIn K cStatics "thirdparty.any" = some none) && (decide (PySem.W.typeIn K (.ref C) = some (.type "type")) && nmfB' K C)))
theorem errB_ok {K : Fg} {C : Addr} {nm : Str} (h : errB K C nm = true) : ErrN K C nm := by
  unfold errB at h
  simp only [Bool.and_eq_true_iff, decide_eq_true_eq] at h
  obtain ⟨h1, h2, h3, h4, h5⟩ := h
  refine ⟨(excB_ok h1).1, ?_, h3, h4, nmfB'_ok h5⟩
  unfold nameB at h2
  split at h2
  · rename_i ct dd dt s0 s1 z t r e
    rw [Bool.and_eq_true_iff] at h2
    rw [← of_decide_eq_true h2.2]
    exact ⟨_, t, e, of_decide_eq_true h2.1, rfl⟩
  · cases h2
/-! ### the law's code object and its table -/
def lwC (K : Fg) : Addr := cdA K (He.ga K "law")
def lwP (K : Fg) : Addr := He.tabOf K (lwC K)
structure SaysP (fs : List FdO) (ex : Fg → List Bool) (h : Heap) (K : Fg) : Prop where
  kin : K.In h
  sy : SaysO fs ex K
  hd : PySem.W.codeHdIn K (lwC K) (lwP K) = true
  nK : K.lookup (lwP K) = none
  at_ : h.get? (lwP K) = some { cls := .none, data := .fields #[] }
abbrev AlP := AlO × Bool
end Tw
/-! t[::-1], t a tuple (the library has it of lists; getItem_tuple_cut and sliceApplied_gen followed, with the step -1) -/
namespace HT
open PySem PySem.Calls PyProof.Rows
section
variable {prog : Program} {w : World} {A : Around} {E : Value → Shared → Prop} {s : Shared}
end
end HT
namespace Tw
open PySem PySem.Spec PyProof.Rows L2 RT
/-- an error told later is told as well -/
theorem errAt_same {K : PySem.W.Frag} {C : Addr} {nm : Str} {ds : List PyData} {H H' : Hp} {E : XK} (e : Same H H') (h : ErrAt K C nm ds H E) : ErrAt K C nm ds H' E := fun dd t fs H2 s h0 hd hc hde hdp =>
  h dd t fs H2 (Same.trans e s) (e.free h0) hd hc hde (dp_same (fun b o z => newOf_at (e.free (newOf_old z)) (newOf_same _ _ z)) _ _ hdp)
/-- the same data twice -/
theorem eqd_good {K : PySem.W.Frag} {H : Hp} : ∀ {n c : Nat} {d : PyData} {x y : V}, GoodD n d c → Dp K H x d → Dp K H y d → Eqd K H n x y := by
  intro n
  induction n with
  | zero =>
    intro c d x y hg hx hy
    cases hx with
    | non => cases hy; exact .flat rfl
    | bl b => cases hy; exact .flat rfl
    | int i => cases hy; exact .flat rfl
    | str s => cases hy; exact .flat rfl
    | lst _ _ => exact hg.elim
    | tup _ _ => exact hg.elim
  | succ n ih =>
    intro c d x y hg hx hy
    cases hx with
    | non => cases hy; exact .flat rfl
    | bl b => cases hy; exact .flat rfl
    | int i => cases hy; exact .flat rfl
    | str s => cases hy; exact .flat rfl
    | lst hs ha =>
      cases hy with
      | lst hs2 ha2 =>
        obtain ⟨h1, cs, h2, _, h4⟩ := hg
        obtain ⟨l1, f1⟩ := dpAll_at ha
        obtain ⟨l2, f2⟩ := dpAll_at ha2
        refine .lst hs hs2 (l1.trans l2.symm) (by omega) fun i u v hu hv => ?_
        have hi := (List.getElem?_eq_some_iff.mp hu).1
        have e1 := List.getElem?_eq_getElem (l := _) (show i < _ from (l1 ▸ hi))
        have e2 := List.getElem?_eq_getElem (l := cs) (show i < cs.length by rw [h2]; exact l1 ▸ hi)
        exact ih (h4 i _ _ e1 e2) (f1 i u _ hu e1) (f2 i v _ hv e1)
    | tup hs ha =>
      cases hy with
      | tup hs2 ha2 =>
        obtain ⟨h1, cs, h2, _, h4⟩ := hg
        obtain ⟨l1, f1⟩ := dpAll_at ha
        obtain ⟨l2, f2⟩ := dpAll_at ha2
        refine .tup hs hs2 (l1.trans l2.symm) (by omega) fun i u v hu hv => ?_
        have hi := (List.getElem?_eq_some_iff.mp hu).1
        have e1 := List.getElem?_eq_getElem (l := _) (show i < _ from (l1 ▸ hi))
        have e2 := List.getElem?_eq_getElem (l := cs) (show i < cs.length by rw [h2]; exact l1 ▸ hi)
        exact ih (h4 i _ _ e1 e2) (f1 i u _ hu e1) (f2 i v _ hv e1)
end Tw
/-! an own error made without arguments (the library has it with some: pmk_oex, followed here) -/
namespace L2
open PySem PySem.Spec PyProof.Rows
theorem pmk_oex0 {X : Cx} {p pos : Pos} {CX : CXT} {x : Str} {C fI : Addr} {k : Nat} {fd : FuncData} {ps : List Str} {sp : Sp} (T : OexC X.K C) (iC : PySem.W.findIn X.K (.ref C) "__init__" = some (some (.ref fI))) (tI : PySem.W.typeIn X.K (.ref fI) = some (.type "function"))
    (F1 : FnOk X.prog X.w X.K X.mg X.base CX k fI fd ps sp) (hr : Room (k + 1) X.A) (hb : Binds X.K fd ps []) (hx : Passes CX X (fun _ _ _ => False)) (hg : Gl X x) (hm : X.mg x = some (.ref C)) (hdb : (x == ("__debug__" : Str)) = false := by decide) :
    PMk X (.Call (.Name x p) [] [] pos) (tMkO C sp [] tNil) := by
  intro pins s σ H Q I h
  obtain ⟨nm, q, N, bs, bm, sn, sub, ab, col, dd, k0, k1, k2, k3, k5, hC, hbm⟩ := T.cls
  refine wpAny_Call_Name_kw (ld_glob I hg hm ?_ hdb)
  refine PySem.W.callWith_K0 I.kIn T.kC ?_
  obtain ⟨hz, q1⟩ := h
  show wpAny _ _ (call (.ref C) []) _ _ _
  obtain ⟨hp, g, dr, tk, os⟩ := s
  have hsz : hp.objs.size ≤ hp.objs.size + 1 := Nat.le_succ _
  have hn : H (hp.objs.size + 1) = none := I.hok.fresh hsz
  have hq := q1 (hp.objs.size + 1) hn
  have kk : ∀ b o, hp.get? b = some o → ((hp.push (PySem.W.kdv_tup [])).push (PySem.HandSPX.excO C hp.objs.size)).get? b = some o := fun b o e => Heap.get?_push_of_some _ (Heap.get?_push_of_some _ e)
  have hget : ((hp.push (PySem.W.kdv_tup [])).push (PySem.HandSPX.excO C hp.objs.size)).get? (hp.objs.size + 1) = some (PySem.HandSPX.excO C hp.objs.size) := by heap_get
  have I2 : Inv X pins σ (upd H (hp.objs.size + 1) (exo (hp.objs.size + 1) C none)) ⟨(hp.push (PySem.W.kdv_tup [])).push (PySem.HandSPX.excO C hp.objs.size), g, dr, tk, os⟩ :=
    I.laid (t' := tk) (a := hp.objs.size + 1) (o := exo (hp.objs.size + 1) C none) (h' := (hp.push (PySem.W.kdv_tup [])).push (PySem.HandSPX.excO C hp.objs.size)) kk hsz (exo_ok hget)
  have r2 : Vals (V.ref (hp.objs.size + 1) :: ([] ++ [])) (Value.ref (hp.objs.size + 1) :: ([] ++ [])) := .cons rfl .nil
  have hl : (Value.ref (hp.objs.size + 1) :: [] ++ []).length = ps.length := by
    have e := r2.length
    rw [F1.len _ _ _ _ hq] at e
    exact e.symm
  have hbt := hb ⟨(hp.push (PySem.W.kdv_tup [])).push (PySem.HandSPX.excO C hp.objs.size), g, dr, tk, os⟩ (Value.ref (hp.objs.size + 1) :: []) I2.kIn hl
  rw [List.append_nil] at hbt
  refine wpAny_call (PySem.HandSPX.call_own F.excBase_ValueError (fun Y => PySem.HandSPX.refsVE_contains Y bm hbm) (I.kIn _ _ hC) (PySem.W.looks_findIn I.kIn iC) (fun self => PySem.W.bind_fn I.kIn self tI) (Nat.zero_le _)
    (codeAny_mono (F1.run _ X.stack _ _ ⟨Value.ref (hp.objs.size + 1) :: [], []⟩ [Value.ref (hp.objs.size + 1)] _ _ (fun _ _ _ => False) (hr.make C [] []) (I2.env0.make C [] []) hbt r2 hq) fun r s' hq' => ?_))
  cases r with
  | error er => exact hx pins σ _ _ er s' I2 hq'
  | ok fl =>
    cases fl with
    | ret u =>
      obtain ⟨v, H2, os2, bare2, un2, hok2, rv, ev, d, fs, ea, ed, hd1, q2⟩ := hq'
      subst ev
      obtain ⟨h2, g2, d2, t2, os'⟩ := s'
      exact ⟨rv, mk_end (raises_own T.exC T.tyC) I hsz kk un2 hok2 os2 bare2 ea ed hd1 q2⟩
    | next => exact False.elim hq'
    | brk => exact False.elim hq'
    | cont => exact False.elim hq'
end L2
namespace Tw
open PySem PySem.Spec PyProof.Rows L2
theorem n_ke0 {P : Program} {w : World} {K : PySem.W.Frag} {mg : Str → Option Value} {base : Heap} {j k : Nat} {X : Cx} {NS WS : List (Str × Nat)} {G : List Str} {x nm : Str} {C : Addr} {ps : List Str} {vsOk : List V → Hp → List PyData → Prop} {p pos : Pos}
    (h : Nm P w K mg base j X NS WS G) (D : Ke P w K mg base k x C nm ps vsOk) (hk : k + 1 ≤ j) (hg : x ∈ G) : PMk X (.Call (.Name x p) [] [] pos) (tKe K C nm vsOk tNil) := by
  obtain ⟨h1, h2, h3, h4, h5, hr, _, _, _, _, hgl⟩ := h
  subst h1 h2 h3 h4 h5
  obtain ⟨fI, fd, i1, i2, hb, F⟩ := D.ex
  intro pins s σ H Q I hh
  exact pmk_oex0 D.T i1 i2 F (hr.mono hk) hb pass0 (hgl x hg).1 D.at_ (hgl x hg).2.1 pins s σ H Q I hh
end Tw
namespace Tw
open PySem PySem.Spec PyProof.Rows L2
/-- a def that may raise, called with some keywords -/
structure DxN (P : Program) (w : World) (K : PySem.W.Frag) (mg : Str → Option Value) (base : Heap) (k : Nat) (x : Str) (ps : List Str) (n : Nat) (ks : List Str) (gV : List V → List V → List V) (sp : Sp) : Prop where
  ex : ∃ f fd, ∃ g : List Value → List Value → List Value, mg x = some (.ref f) ∧ PySem.W.keepIn K (.ref f) = true ∧ KBn K fd ps n ks g gV ∧ FnOk P w K mg base (L2.CX P w) k f fd ps sp
end Tw
namespace Tw
open PySem PySem.Spec PyProof.Rows L2
/-! ### makers and static methods that may raise -/
structure Kx (P : Program) (w : World) (K : PySem.W.Frag) (mg : Str → Option Value) (base : Heap) (k : Nat) (C : Addr) (n : Nat) (ps ks : List Str) (gV : List V → List V → List V) (sp : Sp) : Prop where
  ex : ∃ f fd g, Mk K C f ∧ KBn K fd ps (n + 1) ks g gV ∧ FnOk P w K mg base (L2.CX P w) k f fd ps sp
structure Kx0 (P : Program) (w : World) (K : PySem.W.Frag) (mg : Str → Option Value) (base : Heap) (k : Nat) (C : Addr) (ps : List Str) (sp : Sp) : Prop where
  ex : ∃ f fd ds, Mk K C f ∧ Vals [V.int 0] ds ∧ Binds K fd ps ds ∧ FnOk P w K mg base (L2.CX P w) k f fd ps sp
structure Sx (P : Program) (w : World) (K : PySem.W.Frag) (mg : Str → Option Value) (base : Heap) (k : Nat) (C : Addr) (m : Str) (ps : List Str) (sp : Sp) : Prop where
  ex : ∃ q f fd mc rest, ClX.CRead K C mc ∧ PySem.W.findCls K (.ref C) mc m = some (.get (.builtin "staticmethod.__get__") (.ref q) .none (.ref C)) ∧ PySem.W.recIn K q "staticmethod" = some (.ref f :: rest) ∧
    PySem.W.keepIn K (.ref f) = true ∧ Binds K fd ps [] ∧ FnOk P w K mg base (L2.CX P w) k f fd ps sp
structure SxK (P : Program) (w : World) (K : PySem.W.Frag) (mg : Str → Option Value) (base : Heap) (k : Nat) (C : Addr) (m : Str) (ps ks : List Str) (gV : List V → List V → List V) (sp : Sp) : Prop where
  ex : ∃ q f fd mc rest, ∃ g : List Value → List Value → List Value, ClX.CRead K C mc ∧ PySem.W.findCls K (.ref C) mc m = some (.get (.builtin "staticmethod.__get__") (.ref q) .none (.ref C)) ∧ PySem.W.recIn K q "staticmethod" = some (.ref f :: rest) ∧
    PySem.W.keepIn K (.ref f) = true ∧ KBn K fd ps 0 ks g gV ∧ FnOk P w K mg base (L2.CX P w) k f fd ps sp
section
variable {P : Program} {w : World} {K : PySem.W.Frag} {mg : Str → Option Value} {base : Heap} {j k n : Nat} {X : Cx} {NS WS : List (Str × Nat)} {G : List Str} {x m : Str} {C : Addr} {ps ks : List Str} {sp : Sp} {e : Expr} {es : List Expr} {t tk : TA} {p pos apos : Pos} {E : XK} {kws : List Keyword}
end
end Tw
namespace Tw
open PySem PySem.Spec PyProof.Rows L2
/-! ### new instances: keywords alone; the class in a local name -/
section
variable {P : Program} {w : World} {K : PySem.W.Frag} {mg : Str → Option Value} {base : Heap} {j k : Nat} {X : Cx} {NS WS : List (Str × Nat)} {G : List Str} {x : Str} {i : Nat} {p pos : Pos} {e : Expr} {es : List Expr} {kws : List Keyword} {t tk : TA} {ps ks : List Str} {sp : Sp} {C : Addr}
structure Kfk (P : Program) (w : World) (K : PySem.W.Frag) (mg : Str → Option Value) (base : Heap) (k : Nat) (C : Addr) (ps ks : List Str) (gV : List V → List V → List V) (sp : Sp) : Prop where
  ex : ∃ f fd g, Mk K C f ∧ KBn K fd ps 1 ks g gV ∧ FnOk P w K mg base CX0 k f fd ps sp
structure Kdl (P : Program) (w : World) (K : PySem.W.Frag) (mg : Str → Option Value) (base : Heap) (k : Nat) (C : Addr) (ps : List Str) (sp : Sp) : Prop where
  ex : ∃ f fd, Mk K C f ∧ Binds K fd ps [] ∧ FnOk P w K mg base CX0 k f fd ps sp
theorem n_mkA (h : Nm P w K mg base j X NS WS G) (hm : mg x = some (.ref C)) (M : Kdl P w K mg base k C ps sp) (hk : k + 1 ≤ j) (hg : x ∈ G) (ha : PA X (e :: es) t)
    (he : starEach (e :: es) X.env = (false, eval e X.env) :: starEach es X.env := by rfl) (hpl : (backTo pos (starEach es X.env)).any (·.1) = false := by rfl) : PE X (.Call (.Name x p) (e :: es) [] pos) (tMake C sp [] E0 t) := by
  obtain ⟨h1, h2, h3, h4, h5, hr, _, _, _, _, hgl⟩ := h
  subst h1 h2 h3 h4 h5
  obtain ⟨f, fd, hM, hb, F⟩ := M.ex
  exact pe_make hM F (hr.mono hk) (hgl x hg).1 hm hb .nil pass0 ha (hgl x hg).2.1 he hpl
end
end Tw
namespace Tw
open PySem PySem.Spec PyProof.Rows L2
/-! ### comprehensions of objects made anew, over any sequence; enumerate of any sequence -/
theorem lcN {K : PySem.W.Frag} {J : It} {xs : List V} {R : Nat → V → Hp → Prop} {g : TG} {te : TE} {vs : List Nat} {σ : L2.St} {H1 : Hp} {D : Addr} {Qd : Hp → Prop} (hj : SeqJ J (Same H1) xs) (hD : H1 D = none) (hz : xs.length < sizeLine)
    (hR : ∀ i y H H', Same H H' → R i y H → R i y H') (hRl : ∀ i y H zs, R i y H → R i y (upd H D (.lst zs)))
    (he : ∀ (j : Nat) x H' (Qk : V → Hp → Prop), xs[j]? = some x → Same H1 H' → (∃ ys, H' D = some (.lst ys)) → (∀ y H3, Same H' H3 → R j y H3 → Qk y H3) → g x (wipe σ vs) H' fun σ2 H3 => wipe σ2 vs = wipe σ vs ∧ te σ2 H3 Qk)
    (hd : ∀ ys H', Same H1 H' → H' D = some (.lst ys) → ys.length = xs.length → (∀ (i : Nat) y, ys[i]? = some y → R i y H') → Qd H')
    (hgm : ∀ v σ H (A B : L2.St → Hp → Prop), (∀ σ H, A σ H → B σ H) → g v σ H A → g v σ H B) :
    ∃ W : Nat → Nat → Hp → Prop, (∃ m, W 0 m (upd H1 D (.lst []))) ∧ ∀ i' m H, W i' m H →
      (J.stop i' H ∧ Qd H) ∨ (J.go i' H ∧ ∃ Nx : Hp → Prop, (∀ H', Nx H' → ∃ m', m' < m ∧ W (i' + 1) m' H') ∧ ∀ x H', J.yld i' H x H' → g x (wipe σ vs) H' fun σ2 H2 => wipe σ2 vs = wipe σ vs ∧ tYes σ2 H2 fun b H3 =>
        if b = true then te σ2 H3 fun y H4 => ∃ acc, H4 D = some (.lst acc) ∧ acc.length < sizeLine ∧ Nx (upd H4 D (.lst (acc ++ [y]))) else Nx H3) :=
  lcB (K := K) hD hz (fun H j s hj' => hj.go H j _ s (List.getElem?_eq_getElem hj')) (fun H s => hj.stop H s) hR hRl (fun j x H' v H2 Qk hx s1 hys hy kk => by
    obtain ⟨rfl, ex⟩ := hj.yl H' j v H2 s1 hy
    rw [hx] at ex
    obtain rfl := Option.some.inj ex
    exact he j _ _ Qk hx s1 hys kk) hd hgm
/-- an iteration over pairs of place and item, made anew -/
structure EnJ (J : It) (S : Hp → Prop) (xs : List V) : Prop where
  go : ∀ H (j : Nat) x, S H → xs[j]? = some x → J.go j H
  stop : ∀ H, S H → J.stop xs.length H
  yl : ∀ H (j : Nat) v H', S H → J.yld j H v H' → ∃ T x, v = .ref T ∧ H T = none ∧ H' = upd H T (.tup [.int (j : Nat), x]) ∧ xs[j]? = some x
/-! ### tuple(x), list(x) in a block: what they ask speaks of K alone -/
section
variable {P : Program} {w : World} {K : PySem.W.Frag} {mg : Str → Option Value} {base : Heap} {j k : Nat} {X : Cx} {NS WS : List (Str × Nat)} {G : List Str} {p pos : Pos} {e : Expr} {es : List Expr} {t : TA}
end
end Tw
namespace Tw
open PySem PySem.Spec PyProof.Rows L2
/-! ### tuples of tuples, lists of lists of ints as data; slices in a block; range as a sequence -/
def RowsLi (H : Hp) (xs : List V) (ks : List (List Int)) : Prop := xs.length = ks.length ∧ ∀ (i : Nat) v k, xs[i]? = some v → ks[i]? = some k → ∃ a, v = .ref a ∧ H a = some (.lst (k.map V.int))
theorem RowsLi.same {H H' : Hp} {xs : List V} {ks : List (List Int)} (h : RowsLi H xs ks) (e : Same H H') : RowsLi H' xs ks := ⟨h.1, fun i v r h1 h2 => by
  obtain ⟨a, e1, e2⟩ := h.2 i v r h1 h2
  exact ⟨a, e1, e _ _ e2⟩⟩
section
variable {P : Program} {w : World} {K : PySem.W.Frag} {mg : Str → Option Value} {base : Heap} {j k : Nat} {X : Cx} {NS WS : List (Str × Nat)} {G : List Str} {p2 pos : Pos} {e : Expr} {lo hi : Option Expr} {te : TE}
end
end Tw
namespace Tw
open PySem PySem.Spec PyProof.Rows L2
/-! ### a classmethod by its name, as a fact; a value of a base class against an own class -/
end Tw
namespace Tw
open PySem PySem.Spec PyProof.Rows L2
/-! ### one reading or the other; a def with defaults that may raise -/
structure DdX (P : Program) (w : World) (K : PySem.W.Frag) (mg : Str → Option Value) (base : Heap) (k : Nat) (x : Str) (ps : List Str) (dvs : List V) (sp : Sp) : Prop where
  ex : ∃ f fd ds, mg x = some (.ref f) ∧ PySem.W.keepIn K (.ref f) = true ∧ Vals dvs ds ∧ Binds K fd ps ds ∧ FnOk P w K mg base (L2.CX P w) k f fd ps sp
theorem n_ddX {P : Program} {w : World} {K : PySem.W.Frag} {mg : Str → Option Value} {base : Heap} {j k : Nat} {X : Cx} {NS WS : List (Str × Nat)} {G : List Str} {x : Str} {p pos : Pos} {e : Expr} {es : List Expr} {t : TA} {ps : List Str} {dvs : List V} {sp : Sp} {E : XK} (h : Nm P w K mg base j X NS WS G) (D : DdX P w K mg base k x ps dvs sp) (hk : k ≤ j) (hg : x ∈ G) (tk : Takes X (fun cls d _ H => E cls d H)) (ha : PA X (e :: es) t)
    (he : starEach (e :: es) X.env = (false, eval e X.env) :: starEach es X.env := by rfl) (hpl : (backTo pos (starEach es X.env)).any (·.1) = false := by rfl) : PE X (.Call (.Name x p) (e :: es) [] pos) (tCall sp dvs E t) := by
  obtain ⟨h1, h2, h3, h4, h5, hr, _, _, _, _, hgl⟩ := h
  subst h1 h2 h3 h4 h5
  obtain ⟨f, fd, ds, hm, hkp, hv, hb, F⟩ := D.ex
  exact pe_call F (hr.mono hk) (hgl x hg).1 hm hkp hb hv (passes_call tk fun _ _ _ _ z => z) ha (hgl x hg).2.1 he hpl
end Tw
namespace Tw
open PySem PySem.Spec PyProof.Rows L2
/-! ### how long the round of the zeros is, at every number of dials -/
section
variable {p : Int} {M : Mach} {st : Int}
end
end Tw
namespace Tw
open PySem PySem.Spec PyProof.Rows L2
/-! ### totals of undone turners and of products -/
structure OkZ (p : Int) (M : Mach) (st : Int) : Prop where
  pr : IsP p
  ok : OkM p (M.length : Int) M
  st0 : 0 ≤ st
  st1 : st < (M.length : Int)
section
variable {p : Int} {M N : Mach} {st sd : Int}
end
end Tw
namespace Tw
open PySem PySem.Spec PyProof.Rows L2
/-! ### makers, classmethods, calls of instances and methods that may raise -/
structure KdX (P : Program) (w : World) (K : PySem.W.Frag) (mg : Str → Option Value) (base : Heap) (k : Nat) (C : Addr) (ps : List Str) (sp : Sp) : Prop where
  ex : ∃ f fd, Mk K C f ∧ Binds K fd ps [] ∧ FnOk P w K mg base (L2.CX P w) k f fd ps sp
structure CMx (P : Program) (w : World) (K : PySem.W.Frag) (mg : Str → Option Value) (base : Heap) (k : Nat) (C : Addr) (m : Str) (ps : List Str) (sp : Sp) : Prop where
  ex : ∃ mc q g, ClX.CRead K C mc ∧ ClX.CMet K C mc m q g ∧ FnR P w K mg base (L2.CX P w) k g sp
structure CoX (P : Program) (w : World) (K : PySem.W.Frag) (mg : Str → Option Value) (base : Heap) (k : Nat) (C : Addr) (ps : List Str) (sp : Sp) : Prop where
  ex : ∃ f fd, StX.CallO K C f ∧ Binds K fd ps [] ∧ FnOk P w K mg base (L2.CX P w) k f fd ps sp
structure Mx (P : Program) (w : World) (K : PySem.W.Frag) (mg : Str → Option Value) (base : Heap) (k : Nat) (C : Addr) (m : Str) (ps : List Str) (sp : Sp) : Prop where
  ex : ∃ f fd, Meth K C m f ∧ Binds K fd ps [] ∧ FnOk P w K mg base (L2.CX P w) k f fd ps sp
section
variable {P : Program} {w : World} {K : PySem.W.Frag} {mg : Str → Option Value} {base : Heap} {j k n : Nat} {X : Cx} {NS WS : List (Str × Nat)} {G : List Str} {x m : Str} {C : Addr} {ps ks : List Str} {sp : Sp} {e o : Expr} {es : List Expr} {t tk : TA} {ta : TE} {p pos apos : Pos} {E : XK} {kws : List Keyword}
end
end Tw
namespace Tw
open PySem PySem.Spec PyProof.Rows L2
end Tw
namespace Tw
open PySem PySem.Spec PyProof.Rows L2 LamX NdefX
/-! ### lambdas called with arguments -/
structure LamA (P : Program) (w : World) (K : PySem.W.Frag) (mg : Str → Option Value) (base : Heap) (k : Nat) (f : Addr) (t : List V → Hp → VK → XK → Prop) : Prop where
  run : ∀ (A : Around) (outer : List Env) (s : Shared) (H : Hp) (us : List Value) (vs : List V) (Q : VK) (E : XK), Room k A → Env0 P w K mg base A outer s H → Vals vs us → t vs H Q E → codeAny (model P w) A (.call (.ref f) ⟨us, []⟩) (CR (L2.CX P w) outer P w H s Q E) s
theorem LamA.mono {P : Program} {w : World} {K : PySem.W.Frag} {mg : Str → Option Value} {base : Heap} {j k : Nat} {f : Addr} {t : List V → Hp → VK → XK → Prop} (L : LamA P w K mg base j f t) (h : j ≤ k) : LamA P w K mg base k f t :=
  ⟨fun A outer s H us vs Q E hr e0 r z => L.run A outer s H us vs Q E (hr.mono h) e0 r z⟩
end Tw
namespace Tw
open PySem PySem.Spec PyProof.Rows L2
/-! ### machines explored by keys -/
section
variable {κ : Type} [DecidableEq κ]
def addE (ks : List κ) (c : κ) : List κ := if c ∈ ks then ks else ks ++ [c]
def addsE : List κ → List κ → List κ
  | ks, [] => ks
  | ks, g :: gs => addsE (addE ks g) gs
def plE (ks : List κ) (c : κ) : Nat := ks.idxOf c
def kE (beh : κ → Int × List κ) (a : κ) : Nat → List κ
  | 0 => [a]
  | j + 1 => match (kE beh a j)[j]? with
    | some c => addsE (kE beh a j) (beh c).2
    | none => kE beh a j
theorem plE_app {ks : List κ} {c : κ} (r : List κ) (h : c ∈ ks) : plE (ks ++ r) c = plE ks c := by
  unfold plE
  rw [List.idxOf_append, if_pos h]
theorem plE_snoc {ks : List κ} {c : κ} (h : c ∉ ks) : plE (ks ++ [c]) c = ks.length := by
  unfold plE
  rw [List.idxOf_append, if_neg h]
  simp
/-- the walk goes on up to j -/
def GoE (beh : κ → Int × List κ) (a : κ) (J : Nat) : Prop := ∀ i, i < J → i < (kE beh a i).length
structure DoneE (beh : κ → Int × List κ) (a : κ) (J : Nat) : Prop where
  go : GoE beh a J
  len : (kE beh a J).length = J
  le : J ≤ 240
structure OverE (beh : κ → Int × List κ) (a : κ) (J : Nat) : Prop where
  go : GoE beh a J
  gt : 240 < (kE beh a J).length
end
/-! the dict of the places of ints -/
def PlE (H : Hp) (d : Addr) (ks : List Int) : Prop := ∃ kvs : List (Key × V), H d = some (.dK kvs) ∧ kvs.length ≤ ks.length ∧ ∀ c : Int, valV kvs (.inl c : Key) = if c ∈ ks then some (.int (plE ks c : Nat)) else none
theorem PlE.get {H : Hp} {d : Addr} {ks : List Int} (h : PlE H d ks) (c : Int) : DGet H d (.int c) (if c ∈ ks then some (.int (plE ks c : Nat)) else none) := by
  obtain ⟨kvs, h1, h2, h3⟩ := h
  have g := DGet.k (k := (.inl c : Key)) h1
  rw [h3 c] at g
  exact g
theorem PlE.put {H : Hp} {d : Addr} {ks : List Int} (h : PlE H d ks) {c : Int} (hn : c ∉ ks) (hl : ks.length < 2000) : ∃ kvs, DPut H d (.int c) (.int (ks.length : Nat)) (upd H d (.dK kvs)) ∧ PlE (upd H d (.dK kvs)) d (ks ++ [c]) := by
  obtain ⟨kvs, h1, h2, h3⟩ := h
  refine ⟨putK kvs (.inl c) (.int (ks.length : Nat)), DPut.k (k := (.inl c : Key)) h1 (Nat.lt_of_le_of_lt h2 (Nat.lt_trans hl (by rw [sizeLine_eq]; decide))), _, upd_same, ?_, fun e => ?_⟩
  · have := length_putK kvs (.inl c : Key) (V.int (ks.length : Nat))
    rw [List.length_append]
    show _ ≤ ks.length + 1
    omega
  · rw [valV_put]
    by_cases q : e = c
    · subst q
      rw [if_pos rfl, if_pos (by simp), plE_snoc hn]
    · rw [if_neg (fun z => q (by injection z)), h3 e]
      by_cases m : e ∈ ks
      · rw [if_pos m, if_pos (List.mem_append_left _ m), plE_app _ m]
      · rw [if_neg m, if_neg (fun z => by
          rcases List.mem_append.mp z with z | z
          · exact m z
          · exact q (List.mem_singleton.mp z))]
theorem PlE.same {H H' : Hp} {d : Addr} {ks : List Int} (h : PlE H d ks) (e : Same H H') : PlE H' d ks := by
  obtain ⟨kvs, h1, h2⟩ := h
  exact ⟨kvs, e _ _ h1, h2⟩
theorem PlE.ne {H : Hp} {d a : Addr} {ks : List Int} {xs : List V} (h : PlE H d ks) (e : H a = some (.lst xs)) : a ≠ d := by
  obtain ⟨kvs, h1, h2⟩ := h
  exact ne_of e h1 (by intro q; cases q)
theorem PlE.lst {H : Hp} {d a : Addr} {ks : List Int} {xs ys : List V} (h : PlE H d ks) (e : H a = some (.lst xs)) : PlE (upd H a (.lst ys)) d ks := by
  have n := h.ne e
  obtain ⟨kvs, h1, h2⟩ := h
  exact ⟨kvs, by rw [upd_ne n.symm]; exact h1, h2⟩
end Tw
namespace Tw
open PySem PySem.Spec PyProof.Rows L2 LamX NdefX
/-! ### a lambda with one parameter, captured names and cells of its own -/
structure AccOk (lo n : Nat) (h : Heap) (acc : List (Str × Addr)) (H : Addr → Prop) : Prop where
  inj : ∀ x y c, acc.lookup x = some c → acc.lookup y = some c → x = y
  lt : ∀ y c, acc.lookup y = some c → c < n
  cell : ∀ y c, acc.lookup y = some c → ∃ v, h.IsCell c v
  fr : ∀ y c, acc.lookup y = some c → H c
  ne : ∀ y c, acc.lookup y = some c → c ≠ lo
section
variable {M : Model} {A : Around} {E : Value → Shared → Prop} {s : Shared}
end
structure NScopeC (N : List Str) (x : Str) (fr : List Str) (sc : Scope) : Prop where
  kind : sc.kind = .function
  co : sc.isCoroutine = false
  gen : sc.isGenerator = false
  nd : N.Nodup
  pre : N.take (1 + fr.length) = x :: fr
  par : sc.names.lookup x = some .local ∨ sc.names.lookup x = some .cell
  free : ∀ y ∈ sc.names, y.2 = .free → y.1 ∈ fr
  frk : ∀ y ∈ fr, sc.names.lookup y = some .free
  frc : ∀ y ∈ fr, ∀ p ∈ sc.names, p.2 = .cell → p.1 ≠ y
/-- the function with its cells laid -/
abbrev LF.laid (F : LF) (n : Nat) : NF := { F.nf with cl := cellsFrom (n + 1) F.scope.names F.cl }
section
variable {CX : CXT} {P : Program} {w : World} {K : PySem.W.Frag} {mg : Str → Option Value} {base : Heap} {N fr : List Str} {F : LF} {f : Addr} {A : Around} {outer : List Env} {s : Shared} {H : Hp} {E : XK} {x : Str} {u : Value} {v : V} {ws : List (Option V)}
end
end Tw
namespace Tw
open PySem PySem.Spec PyProof.Rows L2 LamX NdefX
/-! ### a call to which the caller's cells are lent, that may raise -/
end Tw
namespace Tw
open PySem PySem.Spec PyProof.Rows L2
/-! ### truth by an own __bool__; one reading of a test or the other -/
structure Ob (P : Program) (w : World) (K : PySem.W.Frag) (mg : Str → Option Value) (base : Heap) (k : Nat) (C : Addr) (ps : List Str) (sp : Sp) : Prop where
  ex : ∃ f fd, PySem.W.findIn K (.ref C) "__bool__" = some (some (.ref f)) ∧ PySem.W.isFn K (.ref f) = true ∧ Binds K fd ps [] ∧ FnOk P w K mg base CX0 k f fd ps sp
end Tw
namespace Tw
open PySem PySem.Spec PyProof.Rows L2
/-! ### defs whose lambdas have a table of code objects: any list of them; a block of statements read in one way or the other -/
def lqC (K : Fg) (d : Str) : Addr := cdA K (He.ga K d)
def lqP (K : Fg) (d : Str) : Addr := He.tabOf K (lqC K d)
def tabQ1 (g : Addr → Option Obj) (K : Fg) (d : Str) : Bool := PySem.W.codeHdIn K (lqC K d) (lqP K d) && ((K.lookup (lqP K d)).isNone && (match g (lqP K d) with
  | some o => He.emptyTab o
  | none => false))
structure TbQ (h : Heap) (K : Fg) (d : Str) : Prop where
  hd : PySem.W.codeHdIn K (lqC K d) (lqP K d) = true
  nK : K.lookup (lqP K d) = none
  at_ : h.get? (lqP K d) = some { cls := .none, data := .fields #[] }
structure SaysQ (ds : List Str) (fs : List FdO) (ex : Fg → List Bool) (h : Heap) (K : Fg) : Prop where
  kin : K.In h
  sy : SaysO fs ex K
  tb : ∀ d ∈ ds, TbQ h K d
def obQ (ds ns : List Str) (fs : List FdO) (ex : Fg → List Bool) (g : Addr → Option Obj) : AlP := (obO fs ex (He.frG g (adrH ns g)), ds.all (tabQ1 g (He.frG g (adrH ns g))))
def hookQ (ds ns : List Str) (fs : List FdO) (ex : Fg → List Bool) : PySem.W.Hook where
  α := AlP
  obs := fun s => obQ ds ns fs ex s.heap.get?
  val := fun _ => ((fs.map FdO.val, true), true)
  says := fun _ h => ∃ K : Fg, SaysQ ds fs ex h K
  of := fun _ s e => by
    obtain ⟨e1, e2⟩ := Prod.mk.inj e
    have e3 : ds.all (tabQ1 s.heap.get? (He.frG s.heap.get? (adrH ns s.heap.get?))) = true := e2
    refine ⟨_, He.frG_in, e1, fun d hd => ?_⟩
    have e4 := List.all_eq_true.mp e3 d hd
    unfold tabQ1 at e4
    rw [Bool.and_eq_true_iff, Bool.and_eq_true_iff] at e4
    obtain ⟨h1, h2, h3⟩ := e4
    refine ⟨h1, Option.isNone_iff_eq_none.mp h2, ?_⟩
    split at h3
    · rename_i o ho
      rw [ho, He.emptyTab_eq h3]
    · cases h3
  keeps := fun _ h h' ⟨K, c⟩ e => ⟨K, fun a o z => e a o (c.kin a o z), c.sy, fun d hd => ⟨(c.tb d hd).hd, (c.tb d hd).nK, e _ _ (c.tb d hd).at_⟩⟩
theorem obQ_eq (ds ns : List Str) (fs : List FdO) (ex : Fg → List Bool) (s : PySem.W.SharedT) : obQ ds ns fs ex (HandSHeadRun.getT s) = (hookQ ds ns fs ex).obs s.abs := by
  rw [show HandSHeadRun.getT s = s.abs.heap.get? from funext (HandSHeadRun.getT_eq s)]
  rfl
theorem lqC_eq {K : Fg} {d : Str} {oc : Value} {od : Option Addr} {fd : FuncData} {osl : Array (Option Value)} {c : Addr} (l : K.lookup (He.ga K d) = some ⟨oc, od, .func fd, osl⟩) (e : fd.code = .ref c) : lqC K d = c := by
  unfold lqC cdA
  rw [l]
  dsimp only
  rw [e]
end Tw
namespace Tw
open PySem PySem.Spec PyProof.Rows L2
/-! ### x * y by an own __mul__ that may raise -/
section
variable {X : Cx} {n : Nat} {C : Addr} {E : XK}
structure OmX (P : Program) (w : World) (K : PySem.W.Frag) (mg : Str → Option Value) (base : Heap) (k : Nat) (C : Addr) (ps : List Str) (sp : Sp) : Prop where
  ex : ∃ f fd, PySem.W.findIn K (.ref C) "__mul__" = some (some (.ref f)) ∧ PySem.W.isFn K (.ref f) = true ∧ Binds K fd ps [] ∧ FnOk P w K mg base (L2.CX P w) k f fd ps sp
  sf : PySem.W.selfFirst K C = true
end
end Tw
namespace Tw
open PySem PySem.Spec PyProof.Rows L2
/-! ### the mathematics of a mixing turner: its keys are the number without its lower figures -/
end Tw
namespace Tw
open PySem PySem.Spec PyProof.Rows L2 LamX NdefX
/-! ### what a lent call leaves where tables of code have grown in it -/
end Tw
namespace Tw
open PySem PySem.Spec PyProof.Rows L2
/-! ### what the turner of a sum and a product does to figures -/
end Tw
namespace Tw
open PySem PySem.Spec PyProof.Rows L2
/-! ### products of machines that go round: the pairs that are reached -/
structure CycM (p : Int) (m : Nat) (M : Mach) : Prop where
  len : M.length = m
  pos : 0 < m
  go : ∀ (s : Nat) (d : Int), s < m → 0 ≤ d → d < p → goM M (s : Int) d = (((s + 1) % m : Nat) : Int)
def cyK (m n : Nat) (i : Nat) : Key2 := (((i % m : Nat) : Int), ((i % n : Nat) : Int))
structure IsL (m n L : Nat) : Prop where
  pos : 0 < L
  at_ : cyK m n L = (0, 0)
  no : ∀ i, 0 < i → i < L → cyK m n i ≠ (0, 0)
section
variable {p : Int} {m n L : Nat} {M N : Mach}
end
end Tw
namespace Tw
open PySem PySem.Spec PyProof.Rows L2 LamX
/-! ### keys that are tuples of ints -/
abbrev KeyL := List Int
def KlAt (H : Hp) (v : V) (c : KeyL) : Prop := ∃ a, v = .ref a ∧ H a = some (.tup (c.map V.int))
def KlsAt (H : Hp) (xs : List V) (ks : List KeyL) : Prop := xs.length = ks.length ∧ ∀ (i : Nat) x k, xs[i]? = some x → ks[i]? = some k → KlAt H x k
theorem KlAt.same {H H' : Hp} {v : V} {k : KeyL} (h : KlAt H v k) (e : Same H H') : KlAt H' v k := by
  obtain ⟨a, rfl, h⟩ := h
  exact ⟨a, rfl, e _ _ h⟩
theorem KlsAt.same {H H' : Hp} {xs : List V} {ks : List KeyL} (h : KlsAt H xs ks) (e : Same H H') : KlsAt H' xs ks := ⟨h.1, fun i x k h1 h2 => (h.2 i x k h1 h2).same e⟩
theorem KlAt.lst {H : Hp} {v : V} {k : KeyL} {r : Addr} {ys zs : List V} (x : KlAt H v k) (h : H r = some (.lst ys)) : KlAt (upd H r (.lst zs)) v k := by
  obtain ⟨a, rfl, ha⟩ := x
  exact ⟨a, rfl, by rw [upd_ne (ne_of ha h (by intro z; cases z))]; exact ha⟩
theorem KlsAt.lst {H : Hp} {xs : List V} {ks : List KeyL} {r : Addr} {ys zs : List V} (x : KlsAt H xs ks) (h : H r = some (.lst ys)) : KlsAt (upd H r (.lst zs)) xs ks := ⟨x.1, fun i v k h1 h2 => (x.2 i v k h1 h2).lst h⟩
theorem KlsAt.snoc {H : Hp} {xs : List V} {ks : List KeyL} {v : V} {k : KeyL} (x : KlsAt H xs ks) (y : KlAt H v k) : KlsAt H (xs ++ [v]) (ks ++ [k]) := ⟨by simp [x.1], fun i w c h1 h2 => by
  by_cases q : i < xs.length
  · rw [List.getElem?_append_left q] at h1
    rw [List.getElem?_append_left (by rw [← x.1]; exact q)] at h2
    exact x.2 i w c h1 h2
  · rw [List.getElem?_append_right (by omega)] at h1
    rw [List.getElem?_append_right (by rw [← x.1]; omega), ← x.1] at h2
    match hj : i - xs.length, h1, h2 with
    | 0, h1, h2 =>
      obtain rfl := (Option.some.inj h1).symm
      obtain rfl := (Option.some.inj h2).symm
      exact y
    | j + 1, h1, h2 => exact absurd h1 (by simp)⟩
def PlEL (H : Hp) (d : Addr) (ks : List KeyL) : Prop := ∃ kvs : List (List Key × V), H d = some (.dT kvs) ∧ kvs.length ≤ ks.length ∧ ∀ c : KeyL, valV kvs (kyL c) = if c ∈ ks then some (.int (plE ks c : Nat)) else none
theorem PlEL.get {H : Hp} {d a : Addr} {ks : List KeyL} (h : PlEL H d ks) {c : KeyL} (ha : H a = some (.tup (c.map V.int))) : DGet H d (.ref a) (if c ∈ ks then some (.int (plE ks c : Nat)) else none) := by
  obtain ⟨kvs, h1, h2, h3⟩ := h
  rw [← kyL_kV] at ha
  have g := DGet.t (k := kyL c) h1 ha
  rw [h3 c] at g
  exact g
theorem PlEL.put {H : Hp} {d a : Addr} {ks : List KeyL} (h : PlEL H d ks) {c : KeyL} (ha : H a = some (.tup (c.map V.int))) (hn : c ∉ ks) (hl : ks.length < 1000) : ∃ kvs, DPut H d (.ref a) (.int (ks.length : Nat)) (upd H d (.dT kvs)) ∧ PlEL (upd H d (.dT kvs)) d (ks ++ [c]) := by
  obtain ⟨kvs, h1, h2, h3⟩ := h
  rw [← kyL_kV] at ha
  refine ⟨putK kvs (kyL c) (.int (ks.length : Nat)), DPut.t (k := kyL c) h1 ha (small1000 (by omega)), _, upd_same, ?_, fun e => ?_⟩
  · have := length_putK kvs (kyL c) (V.int (ks.length : Nat))
    rw [List.length_append]
    show _ ≤ ks.length + 1
    omega
  · rw [valV_put]
    by_cases q : e = c
    · subst q
      rw [if_pos rfl, if_pos (by simp), plE_snoc hn]
    · rw [if_neg (fun z => q (kyL_inj z)), h3 e]
      by_cases m : e ∈ ks
      · rw [if_pos m, if_pos (List.mem_append_left _ m), plE_app _ m]
      · rw [if_neg m, if_neg (fun z => by
          rcases List.mem_append.mp z with z | z
          · exact m z
          · exact q (List.mem_singleton.mp z))]
theorem PlEL.same {H H' : Hp} {d : Addr} {ks : List KeyL} (h : PlEL H d ks) (e : Same H H') : PlEL H' d ks := by
  obtain ⟨kvs, h1, h2⟩ := h
  exact ⟨kvs, e _ _ h1, h2⟩
theorem PlEL.ne {H : Hp} {d a : Addr} {ks : List KeyL} {xs : List V} (h : PlEL H d ks) (e : H a = some (.lst xs)) : a ≠ d := by
  obtain ⟨kvs, h1, h2⟩ := h
  exact ne_of e h1 (by intro q; cases q)
theorem PlEL.lst {H : Hp} {d a : Addr} {ks : List KeyL} {xs ys : List V} (h : PlEL H d ks) (e : H a = some (.lst xs)) : PlEL (upd H a (.lst ys)) d ks := by
  have n := h.ne e
  obtain ⟨kvs, h1, h2⟩ := h
  exact ⟨kvs, by rw [upd_ne n.symm]; exact h1, h2⟩
end Tw
namespace Tw
open PySem PySem.Spec PyProof.Rows L2
/-! ### stirring -/
end Tw
namespace Tw
open PySem PySem.Spec PyProof.Rows L2
/-! ### a tuple's [:-1] -/
end Tw
namespace Tw
open PySem PySem.Spec PyProof.Rows L2
/-! ### the product of two machines, told as keys that are explored -/
section
variable {p : Int} {M N : Mach} {s0 : Key2}
end
/-! ### powers -/
structure OvK (p : Int) (M N : Mach) (s0 : Key2) (J : Nat) : Prop where
  go : ∀ i, i < J → i < (keyJ p M N s0 i).length
  gt : 240 < (keyJ p M N s0 J).length
inductive PwOk (p : Int) (B : Mach) (sB : Int) : Nat → Mach → Int → Prop
  | zero : PwOk p B sB 0 B sB
  | succ {i J : Nat} {X : Mach} {sX : Int} : PwOk p B sB i X sX → Done p X B (sX, sB) J → J ≤ 240 → PwOk p B sB (i + 1) (outJ p X B (sX, sB) J) 0
theorem PwOk.one {p : Int} {B : Mach} {sB : Int} {i : Nat} {X : Mach} {sX : Int} (h : PwOk p B sB i X sX) : ∀ {Y : Mach} {sY : Int}, PwOk p B sB i Y sY → X = Y ∧ sX = sY := by
  induction h with
  | zero => intro Y sY g; cases g; exact ⟨rfl, rfl⟩
  | succ h D hJ ih =>
    intro Y sY g
    cases g with
    | succ g D2 hJ2 =>
      obtain ⟨rfl, rfl⟩ := ih g
      obtain rfl := D.one D2
      exact ⟨rfl, rfl⟩
end Tw
namespace Tw
open PySem PySem.Spec PyProof.Rows L2
/-! ### o.m(k = v, ..), keywords alone, that may raise -/
structure MKX (P : Program) (w : World) (K : PySem.W.Frag) (mg : Str → Option Value) (base : Heap) (k : Nat) (C : Addr) (m : Str) (ps ks : List Str) (gV : List V → List V → List V) (sp : Sp) : Prop where
  ex : ∃ f fd g, Meth K C m f ∧ KBn K fd ps 1 ks g gV ∧ FnOk P w K mg base (L2.CX P w) k f fd ps sp
section
variable {P : Program} {w : World} {K : PySem.W.Frag} {mg : Str → Option Value} {base : Heap} {j k : Nat} {X : Cx} {NS WS : List (Str × Nat)} {G : List Str} {m : Str} {C : Addr} {ps ks : List Str} {sp : Sp} {o : Expr} {tk : TA} {ta : TE} {pos apos : Pos} {E : XK} {kws : List Keyword}
end
end Tw
/-! own errors over any built-in base: what T28, T29, T44, T51 say over ValueError -/
namespace L2
open PySem PySem.Spec PyProof.Rows
structure BaseE (B newId initId : String) (bmB : List Value) : Prop where
  base : ExcBaseFacts B newId initId bmB
  store : StoreFacts B bmB "object.__setattr__" "object"
  sup : PySem.W.KxsFacts B initId
structure OexG (newId : String) (bmB : List Value) (K : PySem.W.Frag) (C : Addr) : Prop where
  cls : ∃ nm q N bs bm sn sub ab col dd k0 k1 k2 k3 k5, K.lookup C = some (excClassObj nm q C N bs bm true sn sub ab col dd k0 k1 k2 k3 k5 newId) ∧ PySem.W.excTail bmB bm = true
  sa : PySem.W.findIn K (.ref C) "__setattr__" = some (some (.builtin "object.__setattr__"))
  exC : PySem.W.subIn K (.ref C) (.type "BaseException") = some true
  tyC : PySem.W.typeIn K (.ref C) = some (.type "type")
  kC : PySem.W.keepIn K (.ref C) = true
section
variable {B newId initId : String} {bmB : List Value} {K : PySem.W.Frag} {C : Addr}
end
section
open PySem.W Builtin Builtin.ObjectAttr
variable {prog : Program} {w : World} {A : Around} {R : Result → Shared → Prop} {hp : Heap} {g : Array GenState} {d : Drawn} {t : Nat} {os : OsState} {B newId initId : String} {bmB : List Value} {K : PySem.W.Frag} {name : Str} {tk : Tok} {v : Value} {x C dx : Addr} {fv : Array Value}
end
section
variable {X : Cx} {pins : List (Addr × Obj)} {σ : St} {H : Hp} {s : Shared} {a C dx : Addr} {f : Str} {y : V} {u : Value} {fs : List (Str × V)} {Q : Unit → Shared → Prop} {E : Value → Shared → Prop} {A : Around} {B newId initId : String} {bmB : List Value}
end
section
variable {X : Cx} {o e : Expr} {es : List Expr} {to te : TE} {ta : TA} {f : Str} {p p' pos : Pos} {B newId initId : String} {bmB : List Value}
end
end L2
namespace Tw
open PySem PySem.Spec PyProof.Rows L2
section
variable {CX : CXT} {P : Program} {w : World} {K : PySem.W.Frag} {mg : Str → Option Value} {base : Heap} {N : List Str} {x qual : Str} {st : Stmt} {f C cc cda a : Addr} {fd : FuncData} {A : Around} {outer : List Env} {s0 s : Shared} {H0 H : Hp} {E : XK} {σ : L2.St} {e : Expr} {es : List Expr} {ta : TA} {p0 p1 p2 p3 p4 : Pos} {R : Flow → Shared → Prop} {B newId initId : String} {bmB : List Value}
end
section
variable {CX : CXT} {P : Program} {w : World} {K : PySem.W.Frag} {mg : Str → Option Value} {base : Heap} {N ps : List Str} {x qual : Str} {st : Stmt} {f C cc cda : Addr} {fd : FuncData} {e : Expr} {es : List Expr} {p0 p1 p2 p3 p4 : Pos} {rest : List Stmt} {k : Nat} {sp : Sp} {B newId initId : String} {bmB : List Value}
end
structure KeG (newId : String) (bmB : List Value) (P : Program) (w : World) (K : PySem.W.Frag) (mg : Str → Option Value) (base : Heap) (k : Nat) (x : Str) (C : Addr) (nm : Str) (ps : List Str) (vsOk : List V → Hp → List PyData → Prop) : Prop where
  at_ : mg x = some (.ref C)
  T : OexG newId bmB K C
  ex : ∃ fI fd, PySem.W.findIn K (.ref C) "__init__" = some (some (.ref fI)) ∧ PySem.W.typeIn K (.ref fI) = some (.type "function") ∧ Binds K fd ps [] ∧ FnOk P w K mg base CX0 k fI fd ps (spErr K C nm vsOk)
section
variable {P : Program} {w : World} {K : PySem.W.Frag} {mg : Str → Option Value} {base : Heap} {j k : Nat} {X : Cx} {NS WS : List (Str × Nat)} {G : List Str} {x nm : Str} {C : Addr} {ps : List Str} {vsOk : List V → Hp → List PyData → Prop} {e : Expr} {es : List Expr} {t : TA} {p pos : Pos} {B newId initId : String} {bmB : List Value}
end
end Tw
namespace Tw
open PySem PySem.Spec PyProof.Rows L2
/-! ### zip of a list and a tuple -/
section
variable {P : Program} {w : World} {K : PySem.W.Frag} {mg : Str → Option Value} {base : Heap} {j k : Nat} {X : Cx} {NS WS NS' WS' : List (Str × Nat)} {G G' : List Str} {N : List Str} {scD scope : Scope} {pos spos p : Pos}
end
theorem n_piL {P : Program} {w : World} {K : PySem.W.Frag} {mg : Str → Option Value} {base : Heap} {j : Nat} {X : Cx} {NS WS : List (Str × Nat)} {G : List Str} {tg it : Expr} {te : TE} (h : Nm P w K mg base j X NS WS G) (he : PE X it te) : PI X tg it (iList K te) := by
  have q := h.eK
  subst q
  exact pi_list he
/-! ### a comprehension whose own name an inner one captures -/
def nmbC (N : List Str) (NS WS : List (Str × Nat)) (G : List Str) (scD scope : Scope) : Bool :=
  nmbB N NS [] G scD scope && WS.all (fun p => decide (N[p.2]? = some p.1) && (decide ((kNames scD scope).lookup p.1 = some .local) || (decide ((kNames scD scope).lookup p.1 = some .cell) && decide (scope.names.lookup p.1 = some .cell))))
section
variable {P : Program} {w : World} {K : PySem.W.Frag} {mg : Str → Option Value} {base : Heap} {j : Nat} {X : Cx} {NS WS NS' WS' : List (Str × Nat)} {G G' : List Str} {N : List Str} {scD scope : Scope} {pos : Pos}
theorem nm_blkC {s : Shared} {H : Hp} {C : Addr} {cl : List (Str × Addr)} {fp : List Addr} (h : Nm P w K mg base j X NS WS G) (eN : X.N = N) (eS : X.env.scope = scD) (hb : nmbC N NS' WS' G' scD scope = true) : Nm P w K mg base j (X.blk s H scope (compEnvC scope cl C X.env) fp) NS' WS' G' := by
  unfold nmbC at hb
  rw [Bool.and_eq_true] at hb
  obtain ⟨h1, h2⟩ := hb
  have z := nm_blk (s := s) (H := H) (C := C) (cl := cl) (fp := fp) h eN eS h1
  have ek : (compEnvC scope cl C X.env).scope.names = kNames scD scope := by
    subst eS
    rfl
  simp only [Bool.and_eq_true, Bool.or_eq_true, decide_eq_true_eq, List.all_eq_true] at h2
  refine ⟨z.ep, z.ew, z.eK, z.em, z.eb, z.room, z.calm, z.nd, z.vis, fun x i hm => ?_, z.gl⟩
  obtain ⟨a, b⟩ := h2 (x, i) hm
  refine ⟨by show X.N[i]? = some x; rw [eN]; exact a, ?_, ?_⟩
  · show (compEnvC scope cl C X.env).scope.names.lookup x = some .local ∨ (compEnvC scope cl C X.env).scope.names.lookup x = some .cell
    rw [ek]
    rcases b with b | b
    · exact .inl b
    · exact .inr b.1
  · rcases b with b | b
    · right
      show (compEnvC scope cl C X.env).scope.names.lookup x = some .local
      rw [ek]; exact b
    · left
      show (scope.names.lookup x == some NameKind.cell) = true
      rw [b.2]; rfl
theorem n_lcXC {elt tg iter : Expr} {own : List (Str × Nat)} {wi : TI} {g : TG} {te : TE} (h : Nm P w K mg base j X NS WS G) (eN : X.N = N) (eS : X.env.scope = scD) (hk : blkC N scD scope own = true) (hb : nmbC N NS' WS' G' scD scope = true) (hi : PI X tg iter wi)
    (hg : ∀ X', Nm P w K mg base j X' NS' WS' G' → PG X' tg g) (he : ∀ X', Nm P w K mg base j X' NS' WS' G' → X'.N = N → X'.env.scope = relS scope scD → PE X' elt te) (hs : ∀ x, foldedSetIterable iter X.env x = pure x := by intro _; rfl) :
    PE X (.ListComp elt [⟨tg, iter, [], 0⟩] scope pos) (tLc wi g tYes te (own.map (·.2))) :=
  pe_lc h.calm h.nd hi (by subst eN eS; exact blkOk_by hk) (fun s H C cl fp => hg _ (nm_blkC h eN eS hb)) (fun _ _ _ _ _ => pts_nil) (fun s H C cl fp => he _ (nm_blkC h eN eS hb) eN (by subst eS; rfl)) hs
end
end Tw
namespace Tw
open PySem PySem.Spec PyProof.Rows L2
/-! ### sorted ints; tuples of ints not in a list of such -/
theorem ne_li3 {K : PySem.W.Frag} {H : Hp} {a b : Addr} {ds es : List Int} {Q : V → Hp → Prop} (ha : H a = some (.lst (ds.map V.int))) (hb : H b = some (.lst (es.map V.int))) (q : Q (.bl (!decide (ds = es))) H) : rNeD K (.ref a) (.ref b) H Q := by
  refine ⟨_, _, .lst (SqL.of ha) (dp_ints ds), .lst (SqL.of hb) (dp_ints es), shaped_l ds, shaped_l es, ?_⟩
  rw [show PyData.eqv (.list (ds.map PyData.int)) (.list (es.map PyData.int)) = decide (ds = es) by rw [PyData.eqv]; exact eqv_ints2 ds es]
  exact q
end Tw
namespace L2
open PySem PySem.Spec PyProof.Rows
section
variable {X : Cx} {pins : List (Addr × Obj)} {σ : St} {H : Hp} {s : Shared} {d : Addr} {o : Obj}
end
section
variable {P : Program} {w : World} {K : PySem.W.Frag} {d : Addr} {o : Obj} {es : Array DictEntry} {ep : Nat}
end
section
variable {X : Cx} {tg e : Expr} {td : TE} {apos cpos : Pos}
/-! ### sum(d.values()), d a dict with tuple keys -/
end
end L2
/-! zip of two tuples whose pairs are kept. What zip.__next__ does while the zip's own tuple is out is a premise here (ZipKept): it is still to be proved -/
namespace RZ
open PySem PySem.Spec PyProof.Rows L2
abbrev IsZf (h : Heap) (z TI TO : Addr) (v : Value) (f : Bool) : Prop :=
  h.get? z = some { cls := .type "zip", dict := none, data := .fields #[v, .bool f, .bool false, .ref TI, .ref TO], slots := #[] }
section
variable {prog : Program} {w : World} {A : Around} {E : Value → Shared → Prop} {s : Shared}
/-- the own tuple of a zip may be out -/
def IsZk (h : Heap) (z TI TO : Addr) : Prop := ∃ v f, IsZf h z TI TO v f ∧ (v = .none ∨ ∃ T : Addr, v = rawInt T)
end
/-- what next does with a zip of two tuples whose own tuple may be out (to be proved) -/
structure ZipKept (prog : Program) (w : World) : Prop where
  item : ∀ {A : Around} {E : Value → Shared → Prop} {s : Shared} {z TI TO i1 i2 l1 l2 : Addr} {k1 k2 : Nat} {xs ys : Array Value} {x y a b : Value} {Q : Option Value → Shared → Prop}, ZipApart z TI TO i1 i2 l1 l2 →
    IsZk s.heap z TI TO → IsPair s.heap TI (.ref i1) (.ref i2) → IsPair s.heap TO a b → s.heap.IsTupleIter i1 l1 k1 → s.heap.IsTupleIter i2 l2 k2 → s.heap.IsTuple l1 xs → s.heap.IsTuple l2 ys → xs[k1]? = some x → ys[k2]? = some y →
    (∀ h', IsZk h' z TI TO → (∃ c d, IsPair h' TO c d) → h'.IsTupleIter i1 l1 (k1 + 1) → h'.IsTupleIter i2 l2 (k2 + 1) → IsPair h' s.heap.objs.size x y → h'.objs.size = s.heap.objs.size + 1 →
      (∀ c o, c ≠ z → c ≠ TO → c ≠ i1 → c ≠ i2 → s.heap.get? c = some o → h'.get? c = some o) → Q (some (.ref s.heap.objs.size)) { s with heap := h' }) → wpAny (model prog w) A (pyNext (.ref z)) Q E s
  done : ∀ {A : Around} {E : Value → Shared → Prop} {s : Shared} {z TI TO i1 i2 l1 l2 : Addr} {k1 k2 : Nat} {xs ys : Array Value} {a b : Value} {Q : Option Value → Shared → Prop}, A.handled = none → ZipApart z TI TO i1 i2 l1 l2 →
    IsZk s.heap z TI TO → IsPair s.heap TI (.ref i1) (.ref i2) → IsPair s.heap TO a b → s.heap.IsTupleIter i1 l1 k1 → s.heap.IsTupleIter i2 l2 k2 → s.heap.IsTuple l1 xs → s.heap.IsTuple l2 ys → (xs[k1]? = none ∨ ys[k2]? = none) →
    (∀ h', (∀ c o, c ≠ z → c ≠ TO → c ≠ i1 → c ≠ i2 → s.heap.get? c = some o → h'.get? c = some o) → Q none { s with heap := h' }) → wpAny (model prog w) A (pyNext (.ref z)) Q E s
end RZ
namespace Tw
open PySem PySem.Spec PyProof.Rows L2
/-! ### a dict of counts by pairs of states -/
def putC (cs : List (Key2 × Int)) (k : Key2) (c : Int) : List (Key2 × Int) := if (cs.any fun e => decide (e.1 = k)) = true then cs.map (fun e => if e.1 = k then (e.1, c) else e) else cs ++ [(k, c)]
theorem anyC_key {k : Key2} {cs : List (Key2 × Int)} : (cs.any fun e => decide (e.1 = k)) = true ↔ k ∈ cs.map (·.1) := by
  rw [List.any_eq_true, List.mem_map]
  constructor
  · rintro ⟨e, h1, h2⟩
    exact ⟨e, h1, of_decide_eq_true h2⟩
  · rintro ⟨e, h1, h2⟩
    exact ⟨e, h1, decide_eq_true h2⟩
theorem putC_keys (cs : List (Key2 × Int)) (k : Key2) (c : Int) : (putC cs k c).map (·.1) = if k ∈ cs.map (·.1) then cs.map (·.1) else cs.map (·.1) ++ [k] := by
  unfold putC
  by_cases q : (cs.any fun e => decide (e.1 = k)) = true
  · rw [if_pos q, if_pos (anyC_key.mp q), List.map_map]
    refine List.map_congr_left fun e _ => ?_
    show (if e.1 = k then (e.1, c) else e).1 = e.1
    split <;> rfl
  · rw [if_neg q, if_neg (fun z => q (anyC_key.mpr z)), List.map_append]; rfl
/-- the pairs are of states of both, each once -/
structure KsOk (M N : Mach) (cs : List (Key2 × Int)) : Prop where
  nd : (cs.map (·.1)).Nodup
  inn : ∀ k ∈ cs.map (·.1), InK M N k
theorem KsOk.len {M N : Mach} {cs : List (Key2 × Int)} (h : KsOk M N cs) : cs.length ≤ M.length * N.length := by
  have := inK_len h.nd h.inn
  rwa [List.length_map] at this
theorem KsOk.put {M N : Mach} {cs : List (Key2 × Int)} (h : KsOk M N cs) {k : Key2} (hk : InK M N k) (c : Int) : KsOk M N (putC cs k c) := by
  constructor
  · rw [putC_keys]
    by_cases q : k ∈ cs.map (·.1)
    · rw [if_pos q]; exact h.nd
    · rw [if_neg q]
      rw [List.nodup_append]
      refine ⟨h.nd, List.nodup_cons.mpr ⟨by simp, List.nodup_nil⟩, fun a ha b hb => ?_⟩
      rw [List.mem_singleton.mp hb]
      intro e
      exact q (e ▸ ha)
  · rw [putC_keys]
    intro x hx
    by_cases q : k ∈ cs.map (·.1)
    · rw [if_pos q] at hx; exact h.inn x hx
    · rw [if_neg q] at hx
      rcases List.mem_append.mp hx with z | z
      · exact h.inn x z
      · rw [List.mem_singleton.mp z]; exact hk
theorem KsOk.nil {M N : Mach} : KsOk M N [] := ⟨List.nodup_nil, fun k h => by cases h⟩
end Tw
namespace Tw
open PySem PySem.Spec PyProof.Rows L2
/-! ### all settings of n dials; those with the same setting behind under two turners -/
end Tw
namespace Tw
open PySem PySem.Spec PyProof.Rows L2
section
variable {P : Program} {w : World} {K : PySem.W.Frag} {mg : Str → Option Value} {base : Heap} {j k : Nat} {X : Cx} {NS WS NS' WS' : List (Str × Nat)} {G G' : List Str} {N : List Str} {scD scope : Scope} {pos spos : Pos}
/-- [elt for tg in iter if c] -/
theorem n_lcI {elt tg iter c : Expr} {own : List (Str × Nat)} {wi : TI} {g : TG} {tt : TT} {te : TE} (h : Nm P w K mg base j X NS WS G) (eN : X.N = N) (eS : X.env.scope = scD) (hk : blkC N scD scope own = true) (hb : nmbB N NS' WS' G' scD scope = true) (hi : PI X tg iter wi)
    (hg : ∀ X', Nm P w K mg base j X' NS' WS' G' → PG X' tg g) (ht : ∀ X', Nm P w K mg base j X' NS' WS' G' → PT X' c tt) (he : ∀ X', Nm P w K mg base j X' NS' WS' G' → PE X' elt te) (hs : ∀ x, foldedSetIterable iter X.env x = pure x := by intro _; rfl) :
    PE X (.ListComp elt [⟨tg, iter, [c], 0⟩] scope pos) (tLc wi g tt te (own.map (·.2))) :=
  pe_lc h.calm h.nd hi (by subst eN eS; exact blkOk_by hk) (fun s H C cl fp => hg _ (nm_blk h eN eS hb)) (fun s H C cl fp => pts_one (ht _ (nm_blk h eN eS hb))) (fun s H C cl fp => he _ (nm_blk h eN eS hb)) hs
end
/-- the numbers below n of which pr is true, none of them changing what is known -/
theorem lc_filt {n i : Nat} {te : TE} {tt : TT} {vs : List Nat} {σ : L2.St} {H1 : Hp} {D : Addr} {Qd : Hp → Prop} {pr : Nat → Bool} (hD : H1 D = none) (hz : n < sizeLine)
    (ht : ∀ (m : Nat) (H : Hp) (R : Bool → Hp → Prop), m < n → Same H1 H → (∀ H', Same H H' → R (pr m) H') → wipe ((wipe σ vs).set i (some (.int (0 + (m : Int))))) vs = wipe σ vs ∧ tt ((wipe σ vs).set i (some (.int (0 + (m : Int))))) H R)
    (he : ∀ (m : Nat) (H : Hp) (Q : V → Hp → Prop), m < n → Same H1 H → Q (.int (m : Int)) H → te ((wipe σ vs).set i (some (.int (0 + (m : Int))))) H Q)
    (hd : ∀ H, Same H1 H → H D = some (.lst ((((List.range n).filter pr).map fun x : Nat => (x : Int)).map V.int)) → Qd H) :
    ∃ W : Nat → Nat → Hp → Prop, (∃ m, W 0 m (upd H1 D (.lst []))) ∧ ∀ i' m H, W i' m H →
      ((Itr 0 n).stop i' H ∧ Qd H) ∨ ((Itr 0 n).go i' H ∧ ∃ Nx : Hp → Prop, (∀ H', Nx H' → ∃ m', m' < m ∧ W (i' + 1) m' H') ∧ ∀ x H', (Itr 0 n).yld i' H x H' → gName i x (wipe σ vs) H' fun σ2 H2 => wipe σ2 vs = wipe σ vs ∧ tt σ2 H2 fun b H3 =>
        if b = true then te σ2 H3 fun y H4 => ∃ acc, H4 D = some (.lst acc) ∧ acc.length < sizeLine ∧ Nx (upd H4 D (.lst (acc ++ [y]))) else Nx H3) := by
  refine lc_range (lo := 0) (n := n) (fun k H => Same H1 H ∧ H D = some (.lst ((((List.range k).filter pr).map fun x : Nat => (x : Int)).map V.int))) ⟨same_new hD, upd_same⟩ (fun k H hk ⟨sH, hDk⟩ => ?_) (fun H ⟨sH, hDk⟩ => hd H sH hDk)
  show wipe _ vs = wipe σ vs ∧ tt _ H _
  have hl : (((List.range k).filter pr).map fun x : Nat => (x : Int)).length < sizeLine := by
    rw [List.length_map]
    have := List.length_filter_le pr (List.range k)
    rw [List.length_range] at this
    omega
  refine ht k H _ hk sH fun H' s' => ?_
  have hD' := s' _ _ hDk
  by_cases c : pr k = true
  · rw [c]
    refine iteT ?_
    refine he k H' _ hk (Same.trans sH s') ⟨_, hD', by rw [List.length_map]; exact hl, same_put (Same.trans sH s') hD, ?_⟩
    rw [upd_same, List.range_succ, List.filter_append, List.map_append, List.map_append, List.filter_cons, if_pos c]; rfl
  · rw [Bool.eq_false_iff.mpr c]
    refine iteF ?_
    refine ⟨Same.trans sH s', ?_⟩
    rw [hD', List.range_succ, List.filter_append, List.filter_cons, if_neg c]
    simp
end Tw
/-! what next does with a zip of two tuples whose own tuple may be out -/
namespace RZ
open PySem PySem.Spec PyProof.Rows L2
section
variable {prog : Program} {w : World} {A : Around} {E : Value → Shared → Prop} {s : Shared}
end
end RZ
namespace Tw
open PySem PySem.Spec PyProof.Rows L2
theorem n_piT2 {P : Program} {w : World} {K : PySem.W.Frag} {mg : Str → Option Value} {base : Heap} {jj : Nat} {X : Cx} {NS WS : List (Str × Nat)} {G : List Str} {tg iter : Expr} {ti : TE} (h : Nm P w K mg base jj X NS WS G) (hi : PE X iter ti) : PI X tg iter (iTup K ti) := by
  have q := h.eK
  subst q
  exact pi_tup hi
/-- list(range(n)) -/
theorem n_listRg {P : Program} {w : World} {K : PySem.W.Frag} {mg : Str → Option Value} {base : Heap} {jj : Nat} {X : Cx} {NS WS : List (Str × Nat)} {G : List Str} {p p2 pos pos2 : Pos} {a : Expr} {ta : TE} (h : Nm P w K mg base jj X NS WS G) (m1 : mg "list" = none) (m2 : mg "range" = none) (g1 : ("list" : Str) ∈ G) (g2 : ("range" : Str) ∈ G) (ha : PE X a ta) (na : starEach [a] X.env = (false, eval a X.env) :: starEach [] X.env := by rfl) (nb : starEach [(Expr.Call (.Name "range" p2) [a] [] pos2)] X.env = (false, eval (Expr.Call (.Name "range" p2) [a] [] pos2) X.env) :: starEach [] X.env := by rfl) :
    PE X (.Call (.Name "list" p) [.Call (.Name "range" p2) [a] [] pos2] [] pos) (tLstRg (tRg1 ta)) :=
  pe_listRg h.calm (h.gl _ g1).1 (by rw [h.em]; exact m1) (prg_1 (h.gl _ g2).1 (by rw [h.em]; exact m2) ha na) nb
def rgI (n : Nat) : List Int := (List.range n).map fun x : Nat => (x : Int)
theorem rgV_I (n : Nat) : rgV 0 (n : Int) = (rgI n).map V.int := by
  unfold rgV rgI
  rw [Int.sub_zero, Int.toNat_natCast, List.map_map]
  refine List.map_congr_left fun x _ => ?_
  show V.int (0 + (x : Int)) = V.int (x : Int)
  rw [Int.zero_add]
theorem mem_rgI {n : Nat} {k : Int} : k ∈ rgI n ↔ 0 ≤ k ∧ k < n := by
  unfold rgI
  rw [List.mem_map]
  constructor
  · rintro ⟨x, hx, rfl⟩
    have := List.mem_range.mp hx
    omega
  · rintro ⟨h0, h1⟩
    exact ⟨k.toNat, List.mem_range.mpr (by omega), by omega⟩
theorem rgI_len (n : Nat) : (rgI n).length = n := by unfold rgI; rw [List.length_map, List.length_range]
/-- numbers below n of which a drawn test is true -/
theorem lc_stepI {b l : Addr} {n i : Nat} {te : TE} {tt : TT} {vs : List Nat} {σ : L2.St} {H1 : Hp} {D : Addr} {Qd : Hp → Prop} (hB : Bag H1 b l) (hD : H1 D = none) (hz : n < sizeLine)
    (ht : ∀ (m : Nat) (H : Hp) (R : Bool → Hp → Prop), m < n → Stp b l H1 H → (∀ H' c, Stp b l H H' → R c H') → wipe ((wipe σ vs).set i (some (.int (0 + (m : Int))))) vs = wipe σ vs ∧ tt ((wipe σ vs).set i (some (.int (0 + (m : Int))))) H R)
    (he : ∀ (m : Nat) (H : Hp) (Q : V → Hp → Prop), m < n → Stp b l H1 H → Q (.int (m : Int)) H → te ((wipe σ vs).set i (some (.int (0 + (m : Int))))) H Q)
    (hd : ∀ H (ks : List Int), Stp b l H1 H → H D = some (.lst (ks.map V.int)) → ks.length ≤ n → (∀ k ∈ ks, 0 ≤ k ∧ k < (n : Int)) → Qd H) :
    ∃ W : Nat → Nat → Hp → Prop, (∃ m, W 0 m (upd H1 D (.lst []))) ∧ ∀ i' m H, W i' m H →
      ((Itr 0 n).stop i' H ∧ Qd H) ∨ ((Itr 0 n).go i' H ∧ ∃ Nx : Hp → Prop, (∀ H', Nx H' → ∃ m', m' < m ∧ W (i' + 1) m' H') ∧ ∀ x H', (Itr 0 n).yld i' H x H' → gName i x (wipe σ vs) H' fun σ2 H2 => wipe σ2 vs = wipe σ vs ∧ tt σ2 H2 fun b H3 =>
        if b = true then te σ2 H3 fun y H4 => ∃ acc, H4 D = some (.lst acc) ∧ acc.length < sizeLine ∧ Nx (upd H4 D (.lst (acc ++ [y]))) else Nx H3) := by
  have nDb : D ≠ b := hB.ne hD
  refine lc_range (lo := 0) (n := n) (fun k H => Stp b l H1 H ∧ ∃ ks : List Int, H D = some (.lst (ks.map V.int)) ∧ ks.length ≤ k ∧ ∀ z ∈ ks, 0 ≤ z ∧ z < (k : Int)) ⟨hB.stp.add hD, [], upd_same, Nat.le_refl _, fun z hz => absurd hz (by simp)⟩ (fun k H hk ⟨sH, ks, hDk, hl, hm⟩ => ?_) (fun H ⟨sH, ks, hDk, hl, hm⟩ => hd H ks sH hDk hl hm)
  show wipe _ vs = wipe σ vs ∧ tt _ H _
  refine ht k H _ hk sH fun H' c s' => ?_
  have hD' := s'.1 _ _ nDb hDk
  cases c
  · refine iteF ?_
    exact ⟨sH.trans s', ks, hD', by omega, fun z hz => ⟨(hm z hz).1, by have := (hm z hz).2; omega⟩⟩
  · refine iteT ?_
    refine he k H' _ hk (sH.trans s') ⟨_, hD', by rw [List.length_map]; omega, (sH.trans s').put hB hD, ks ++ [(k : Int)], by rw [upd_same, List.map_append]; rfl, by rw [List.length_append]; show ks.length + 1 ≤ k + 1; omega, fun z hz => ?_⟩
    rcases List.mem_append.mp hz with h | h
    · exact ⟨(hm z h).1, by have := (hm z h).2; omega⟩
    · rw [List.mem_singleton.mp h]; omega
/-- numbers drawn, one for each item -/
theorem lc_stepS {b l : Addr} {J : It} {xs : List V} {R : Nat → Int → Prop} {g : TG} {te : TE} {vs : List Nat} {σ : L2.St} {H1 : Hp} {D : Addr} {Qd : Hp → Prop} (hB : Bag H1 b l) (hj : SeqJ J (Stp b l H1) xs) (hD : H1 D = none) (hz : xs.length < sizeLine)
    (he : ∀ (j : Nat) x H (Qk : V → Hp → Prop), xs[j]? = some x → Stp b l H1 H → (∀ H2 d, Stp b l H H2 → R j d → Qk (.int d) H2) → g x (wipe σ vs) H fun σ2 H2 => wipe σ2 vs = wipe σ vs ∧ te σ2 H2 Qk)
    (hd : ∀ H' (ds : List Int), Stp b l H1 H' → H' D = some (.lst (ds.map V.int)) → ds.length = xs.length → (∀ (j : Nat) d, ds[j]? = some d → R j d) → Qd H')
    (hgm : ∀ v σ H (A B : L2.St → Hp → Prop), (∀ σ H, A σ H → B σ H) → g v σ H A → g v σ H B) :
    ∃ W : Nat → Nat → Hp → Prop, (∃ m, W 0 m (upd H1 D (.lst []))) ∧ ∀ i' m H, W i' m H →
      (J.stop i' H ∧ Qd H) ∨ (J.go i' H ∧ ∃ Nx : Hp → Prop, (∀ H', Nx H' → ∃ m', m' < m ∧ W (i' + 1) m' H') ∧ ∀ x H', J.yld i' H x H' → g x (wipe σ vs) H' fun σ2 H2 => wipe σ2 vs = wipe σ vs ∧ tYes σ2 H2 fun b H3 =>
        if b = true then te σ2 H3 fun y H4 => ∃ acc, H4 D = some (.lst acc) ∧ acc.length < sizeLine ∧ Nx (upd H4 D (.lst (acc ++ [y]))) else Nx H3) := by
  have nDb : D ≠ b := hB.ne hD
  refine ⟨fun j m H => m = xs.length - j ∧ j ≤ xs.length ∧ Stp b l H1 H ∧ ∃ ds : List Int, H D = some (.lst (ds.map V.int)) ∧ ds.length = j ∧ ∀ (k : Nat) d, ds[k]? = some d → R k d, ⟨xs.length, rfl, Nat.zero_le _, hB.stp.add hD, [], upd_same, rfl, fun k d h => by simp at h⟩, ?_⟩
  rintro j m H ⟨rfl, hj', s1, ds, hDl, hl, hR⟩
  by_cases c : j < xs.length
  · have hx : xs[j]? = some xs[j] := List.getElem?_eq_getElem c
    refine .inr ⟨hj.go H j _ s1 hx, fun H' => Stp b l H1 H' ∧ ∃ ds : List Int, H' D = some (.lst (ds.map V.int)) ∧ ds.length = j + 1 ∧ ∀ (k : Nat) d, ds[k]? = some d → R k d, fun H' p => ⟨xs.length - (j + 1), by omega, rfl, c, p⟩, ?_⟩
    intro v H' hyl
    obtain ⟨rfl, ex⟩ := hj.yl H j v H' s1 hyl
    refine hgm _ _ _ _ _ (fun σ2 H2 p => ⟨p.1, yes_ p.2⟩) (he j v _ _ ex s1 fun H2 d s2 r2 => ⟨_, s2.1 _ _ nDb hDl, ?_, (s1.trans s2).put hB hD, ds ++ [d], ?_, ?_, fun k e hk => ?_⟩)
    · rw [List.length_map]; omega
    · rw [upd_same, List.map_append]; rfl
    · rw [List.length_append, hl]; rfl
    · by_cases ck : k < ds.length
      · rw [List.getElem?_append_left ck] at hk
        exact hR k e hk
      · rw [List.getElem?_append_right (by omega)] at hk
        have e0 : k - ds.length = 0 := by
          rcases Nat.eq_zero_or_pos (k - ds.length) with e | e
          · exact e
          · rw [List.getElem?_eq_none (by simp; omega)] at hk; cases hk
        rw [e0] at hk
        obtain rfl := Option.some.inj hk
        rw [show k = j by omega]; exact r2
  · have e : j = xs.length := by omega
    subst e
    exact .inl ⟨hj.stop H s1, hd H ds s1 hDl hl hR⟩
/-! ### a machine some of whose states stand twice -/
/-- the state at place j of N is a copy of the state os[j] of M -/
structure DbRow (M : Mach) (os : List Int) (s' s : Int × List Int) : Prop where
  turn : s'.1 = s.1
  len : s'.2.length = s.2.length
  inn : ∀ g ∈ s'.2, 0 ≤ g ∧ g < (os.length : Int)
  own : ∀ (c : Nat) g g', s'.2[c]? = some g' → s.2[c]? = some g → os[g'.toNat]? = some g
structure DbOf (M : Mach) (st : Int) (N : Mach) (sd : Int) (os : List Int) : Prop where
  len : N.length = os.length
  inn : ∀ o ∈ os, 0 ≤ o ∧ o < (M.length : Int)
  row : ∀ (j : Nat) s' o, N[j]? = some s' → os[j]? = some o → DbRow M os s' (M.getD o.toNat (0, []))
  st0 : 0 ≤ sd
  start : os[sd.toNat]? = some st
end Tw
namespace Tw
open PySem PySem.Spec PyProof.Rows L2
end Tw
namespace Tw
open PySem PySem.Spec PyProof.Rows L2
/-! ### settings that stay, counted from the last dial down -/
def stM (p : Int) (M : Mach) : Nat → Int → Int
  | 0, _ => 1
  | n + 1, s => if turnM M s = 0 then ((List.range p.toNat).map fun x : Nat => stM p M n (goM M s (x : Nat))).sum else 0
theorem sum_nonneg {l : List Int} (h : ∀ x ∈ l, 0 ≤ x) : 0 ≤ l.sum := by
  induction l with
  | nil => exact Int.le_refl 0
  | cons a r ih =>
    rw [List.sum_cons]
    have := h a List.mem_cons_self
    have := ih fun x hx => h x (List.mem_cons_of_mem _ hx)
    omega
theorem sum_pos_iff : ∀ {l : List Int}, (∀ x ∈ l, 0 ≤ x) → (0 < l.sum ↔ ∃ x ∈ l, 0 < x)
  | [], _ => ⟨fun h => absurd h (by decide), fun ⟨x, hx, _⟩ => by cases hx⟩
  | a :: r, h => by
    rw [List.sum_cons]
    have h1 := h a List.mem_cons_self
    have h2 : ∀ x ∈ r, 0 ≤ x := fun x hx => h x (List.mem_cons_of_mem _ hx)
    have h3 := sum_nonneg h2
    have ih := sum_pos_iff h2
    constructor
    · intro h4
      by_cases c : 0 < a
      · exact ⟨a, List.mem_cons_self, c⟩
      · obtain ⟨x, hx, hp⟩ := ih.mp (by omega)
        exact ⟨x, List.mem_cons_of_mem _ hx, hp⟩
    · rintro ⟨x, hx, hp⟩
      rcases List.mem_cons.mp hx with rfl | hx
      · omega
      · have := ih.mpr ⟨x, hx, hp⟩
        omega
theorem stM_nonneg {p : Int} {M : Mach} : ∀ (n : Nat) (s : Int), 0 ≤ stM p M n s
  | 0, _ => by show (0 : Int) ≤ 1; decide
  | n + 1, s => by
    show 0 ≤ if turnM M s = 0 then _ else _
    split
    · exact sum_nonneg fun x hx => by
        obtain ⟨y, _, rfl⟩ := List.mem_map.mp hx
        exact stM_nonneg n _
    · exact Int.le_refl 0
theorem stM_pos {p : Int} {M : Mach} {n : Nat} {s : Int} : 0 < stM p M (n + 1) s ↔ turnM M s = 0 ∧ ∃ x : Nat, x < p.toNat ∧ 0 < stM p M n (goM M s (x : Nat)) := by
  show (0 < if turnM M s = 0 then _ else _) ↔ _
  by_cases c : turnM M s = 0
  · rw [if_pos c, sum_pos_iff fun x hx => by
      obtain ⟨y, _, rfl⟩ := List.mem_map.mp hx
      exact stM_nonneg n _]
    constructor
    · rintro ⟨z, hz, hp⟩
      obtain ⟨x, hx, rfl⟩ := List.mem_map.mp hz
      exact ⟨c, x, List.mem_range.mp hx, hp⟩
    · rintro ⟨_, x, hx, hp⟩
      exact ⟨_, List.mem_map.mpr ⟨x, List.mem_range.mpr hx, rfl⟩, hp⟩
  · rw [if_neg c]
    exact ⟨fun h => absurd h (by decide), fun h => absurd h.1 c⟩
/-- the least tuple that stays -/
structure FsOk (p : Int) (M : Mach) (st : Int) (n i : Nat) (ds : List Int) : Prop where
  figs : ∀ d ∈ ds, 0 ≤ d ∧ d < p
  len : ds.length = i
  pos : 0 < stM p M (n - i) (runM M st ds)
  zero : ∀ at', at' < i → turnM M (runM M st (ds.take at')) = 0
  least : ∀ (at' : Nat) (d : Int) (x : Nat), ds[at']? = some d → (x : Int) < d → ¬ 0 < stM p M (n - at' - 1) (goM M (runM M st (ds.take at')) (x : Nat))
theorem FsOk.nil {p : Int} {M : Mach} {st : Int} {n : Nat} (h : 0 < stM p M n st) : FsOk p M st n 0 [] :=
  ⟨fun d hd => (by cases hd), rfl, h, fun k hk => absurd hk (Nat.not_lt_zero k), fun k d x hk _ => (by cases hk)⟩
theorem FsOk.snoc {p : Int} {M : Mach} {st : Int} {n i : Nat} {ds : List Int} (h : FsOk p M st n i ds) (hi : i < n) {x : Nat} (hx : (x : Int) < p) (hp : 0 < stM p M (n - i - 1) (goM M (runM M st ds) (x : Nat))) (hl : ∀ y, y < x → ¬ 0 < stM p M (n - i - 1) (goM M (runM M st ds) (y : Nat))) : FsOk p M st n (i + 1) (ds ++ [(x : Int)]) := by
  have hlen := h.len
  have hz : turnM M (runM M st ds) = 0 := by
    have := h.pos
    rw [show n - i = (n - i - 1) + 1 by omega] at this
    exact (stM_pos.mp this).1
  refine ⟨fun d hd => ?_, by rw [List.length_append, h.len]; rfl, ?_, fun k hk => ?_, fun k d y hk hy => ?_⟩
  · rcases List.mem_append.mp hd with q | q
    · exact h.figs d q
    · rw [List.mem_singleton.mp q]; omega
  · rw [runM_snoc, show n - (i + 1) = n - i - 1 by omega]; exact hp
  · by_cases c : k < i
    · rw [List.take_append_of_le_length (by omega)]
      exact h.zero k c
    · obtain rfl : k = i := by omega
      rw [List.take_append_of_le_length (by omega), ← hlen, List.take_length]
      exact hz
  · by_cases c : k < ds.length
    · rw [List.getElem?_append_left c] at hk
      rw [List.take_append_of_le_length (by omega)]
      exact h.least k d y hk hy
    · rw [List.getElem?_append_right (by omega)] at hk
      have e0 : k - ds.length = 0 := by
        rcases Nat.eq_zero_or_pos (k - ds.length) with e | e
        · exact e
        · rw [List.getElem?_eq_none (by simp; omega)] at hk; cases hk
      rw [e0] at hk
      obtain rfl := Option.some.inj hk
      obtain rfl : k = i := by omega
      rw [List.take_append_of_le_length (by omega), ← hlen, List.take_length]
      rw [hlen]
      exact hl y (by omega)
end Tw
namespace Tw
open PySem PySem.Spec PyProof.Rows L2
end Tw
namespace Tw
open PySem PySem.Spec PyProof.Rows L2
theorem at_last {xs : List V} {n : Nat} {v : V} (hl : xs.length = n + 1) (h : xs[n]? = some v) : atI xs (-1) = some v := by
  have e : ixN xs.length (-1) = some n := by
    rw [hl]
    unfold ixN
    rw [if_neg (by decide)]
    split
    · congr 1
      omega
    · exfalso
      omega
  unfold atI
  rw [e]
  exact h
end Tw
/-! sorted(xs), xs any number of tuples of ints that are all of one length -/
namespace RS
open PySem PySem.Spec PyProof.Rows L2
section
variable {prog : Program} {w : World} {A : Around} {s : Shared}
end
end RS
namespace Tw
open PySem PySem.Spec PyProof.Rows L2
end Tw
namespace Tw
open PySem PySem.Spec PyProof.Rows L2
end Tw
/-! sorted(set(xs)), xs a list of ints -/
namespace RI
open PySem PySem.Spec PyProof.Rows L2
section
variable {P : Program} {w : World} {A : Around} {E : Value → Shared → Prop} {s : Shared}
end
end RI
namespace Tw
open PySem PySem.Spec PyProof.Rows L2
end Tw
namespace Tw
open PySem PySem.Spec PyProof.Rows L2
/-! ### where a setting that stays may be behind so many dials -/
/-! ### a way longer than there are states has no end -/
/-! ### a way of stairs -/
end Tw
namespace Tw
open PySem PySem.Spec PyProof.Rows L2
section
variable {P : Program} {w : World} {K : PySem.W.Frag} {mg : Str → Option Value} {base : Heap} {j : Nat} {X : Cx} {NS WS NS' WS' : List (Str × Nat)} {G G' : List Str} {N : List Str} {scD scope : Scope} {pos spos : Pos}
end
end Tw
namespace Tw
open PySem PySem.Spec PyProof.Rows L2
end Tw
namespace Tw
open PySem PySem.Spec PyProof.Rows L2 LamX NdefX
/-! ### lambdas made in a comprehension: its own cells are lent -/
structure LentOfB (ys : List Str) (ce : List (Str × Addr)) (N : List Str) (sc : Scope) (σ : L2.St) (cs : Cells) (H : Hp) : Prop where
  free : ∀ b o, cs.lookup b = some o → H b = none
  all : ∀ y c, y ∈ ys → ce.lookup y = some c → ∃ o v, cs.lookup c = some o ∧ o.data = .cell v
  inj : ∀ x y c, ce.lookup x = some c → ce.lookup y = some c → x = y
  val : ∀ (i : Nat) (y : Str) (v : V), N[i]? = some y → σ[i]? = some (some v) → y ∈ ys → sc.names.lookup y = some .cell → ∃ c o u, ce.lookup y = some c ∧ cs.lookup c = some o ∧ o.data = .cell (some u) ∧ L2.RelV v u
  has : ∀ y, sc.names.lookup y = some .cell → ∃ c, ce.lookup y = some c
section
variable {X : Cx} {pins : List (Addr × Obj)} {σ : L2.St} {H : Hp} {s : Shared} {ys : List Str}
end
section
variable {P : Program} {w : World} {K : PySem.W.Frag} {mg : Str → Option Value} {base : Heap} {j k : Nat} {X : Cx} {NS WS NS' WS' : List (Str × Nat)} {G G' N : List Str} {scD scope : Scope} {x : Str} {ps ys : List Str} {sp : Sp} {e : Expr} {es : List Expr} {t : TA} {p pos : Pos}
end
/-! ### comprehensions where code tables grow -/
end Tw
namespace Tw
open PySem PySem.Spec PyProof.Rows L2
/-! ### a comprehension whose items may raise -/
section
variable {X : Cx} {pins : List (Addr × Obj)} {σ : L2.St} {H : Hp} {s s' : Shared} {E : XK} {ce : Env} {m : Str → Option Value}
end
/-! the block of a comprehension, seen from its def -/
section
variable {X : Cx} {pins q : List (Addr × Obj)} {σ τ : L2.St} {H3 H : Hp} {s3 s : Shared} {scope : Scope} {ce : Env} {fp : List Addr} {E : XK}
/-- where a turn begins -/
structure AtTurn (X' : Cx) (τ : L2.St) (tn : Nat → Heap → Prop) (fp : List Addr) (i : Nat) (H : Hp) (s : Shared) : Prop where
  inv : Inv X' [] τ H s
  at_ : tn i s.heap
  out : ∀ b ∈ fp, H b = none
/-- the next turn begins: the iterator's objects, pinned, are as they were -/
theorem AtTurn.next {X' : Cx} {P : Program} {w : World} {K : PySem.W.Frag} {tg : Expr} {J : It} {it : Addr} {tn : Nat → Heap → Prop} {i : Nat} {τ2 : L2.St} {vs : List Nat} {h7 : Heap} (T : Turn P w K tg J fp it tn) (h : tn i h7) (hw : wipe τ2 vs = τ) (I : Inv X' ([] ++ pinsAt fp h7) τ2 H s) : AtTurn X' τ tn fp i H s := by
  have kept : ∀ b ∈ fp, ∀ o, h7.get? b = some o → s.heap.get? b = some o ∧ H b = none := fun b hb o e => by
    have z := I.pin (b, o) (List.mem_append_right _ (List.mem_append_right _ (mem_pinsAt hb e)))
    exact ⟨z.1, z.2.1⟩
  refine ⟨?_, T.keep _ _ _ h fun b hb o e => (kept b hb o e).1, fun b hb => ?_⟩
  · subst hw
    exact (I.unpinned (pins := [])).weak (wipe_length _ _) fun j v e => (wipe_some e).1
  · obtain ⟨o, e, _⟩ := T.obj _ _ h b hb
    exact (kept b hb o e).2
end
section
variable {X : Cx}
end
end Tw
namespace Tw
open PySem PySem.Spec PyProof.Rows L2 TL
/-! ### comprehensions whose items may raise, by names -/
section
variable {P : Program} {w : World} {K : PySem.W.Frag} {mg : Str → Option Value} {base : Heap} {j k : Nat} {X : Cx} {NS WS NS' WS' : List (Str × Nat)} {G G' N : List Str} {scD scope : Scope} {x : Str} {ps : List Str} {sp : Sp} {e : Expr} {es : List Expr} {t : TA} {p pos : Pos} {E : XK}
end
/-! ### letters of words -/
/-! the sign behind a letter -/
end Tw
namespace Tw
open PySem PySem.Spec PyProof.Rows L2 TL
end Tw
namespace Tw
open PySem PySem.Spec PyProof.Rows L2
end Tw
namespace Tw
open PySem PySem.Spec PyProof.Rows L2
/-- a def that may raise, called by keywords alone -/
structure DxK (P : Program) (w : World) (K : PySem.W.Frag) (mg : Str → Option Value) (base : Heap) (k : Nat) (x : Str) (ps ks : List Str) (gV : List V → List V → List V) (sp : Sp) : Prop where
  ex : ∃ f fd, ∃ g : List Value → List Value → List Value, mg x = some (.ref f) ∧ PySem.W.keepIn K (.ref f) = true ∧ KBn K fd ps 0 ks g gV ∧ FnOk P w K mg base (L2.CX P w) k f fd ps sp
end Tw
namespace Tw
open PySem PySem.Spec PyProof.Rows L2
/-! ### errors that are made and kept: the value, its fields -/
/-- an error of the class cls that was made and not raised, with its dict -/
def erO (a : Addr) (cls : Value) (d : Option Addr) : HO := .ext fun h => ∃ (oe : Obj) (vs : Array Value), h.get? a = some oe ∧ Zc cls d oe ∧ oe.data = .fields vs
end Tw
namespace PySem
namespace ErK
open PySem.W PySem.Calls PyProof.Rows PySem.HandSPX
/-! ### an own error class called by keywords alone -/
section
variable {M : Model} {prog : Program} {w : World} {A : Around} {E : Value → Shared → Prop} {R : Result → Shared → Prop} {h : Heap} {g : Array GenState} {d : Drawn} {t : Nat} {os : OsState}
variable {nm q : Str} {C N : Addr} {bs bm bmB : List Value} {hdct : Bool} {sn : List Str} {sub : List Value} {ab : Bool} {col : Option Bool} {dd : Option Addr} {k0 k1 k2 k3 k5 : Option Value} {B newId initId : String} {kw : List (Str × Value)}
end
end ErK
end PySem
namespace Tw
open PySem PySem.Spec PyProof.Rows L2
/-- an own error class whose instances are made as the built-in ones are -/
structure ClsE (K : PySem.W.Frag) (C : Addr) : Prop where
  ex : ∃ (B newId initId : String) (bmB : List Value), ExcBaseFacts B newId initId bmB ∧ ∃ nm q N bs bm sn sub ab col dd k0 k1 k2 k3 k5, K.lookup C = some (excClassObj nm q C N bs bm true sn sub ab col dd k0 k1 k2 k3 k5 newId) ∧ ∀ Y : String, bm.contains (.type Y) = bmB.contains (.type Y)
  exC : PySem.W.subIn K (.ref C) (.type "BaseException") = some true
  tyC : PySem.W.typeIn K (.ref C) = some (.type "type")
  kC : PySem.W.keepIn K (.ref C) = true
/-- the promise of an error's __init__: what its dict holds, told by R -/
def spErX (C : Addr) (R : List PyData → Hp → List (Str × V) → Prop) (vsOk : List V → Hp → List PyData → Prop) : Sp := fun vs H Q _ => ∃ (a : Addr) (ws : List V) (ds : List PyData), vs = .ref a :: ws ∧ H a = some (exo a C none) ∧ vsOk ws (butD a H) ds ∧
  ∀ (H' : Hp) (dx : Addr) (fs : List (Str × V)), (∀ b o, b ≠ a → H b = some o → H' b = some o) → H dx = none → H' a = some (exo a C (some dx)) → H' dx = some (exd dx fs) → R ds (butD dx (butD a (newOf H H'))) fs → Q .non H'
structure KeX (P : Program) (w : World) (K : PySem.W.Frag) (mg : Str → Option Value) (base : Heap) (k : Nat) (x : Str) (C : Addr) (ps : List Str) (ka : Option Str) (R : List PyData → Hp → List (Str × V) → Prop) (vsOk : List V → Hp → List PyData → Prop) : Prop where
  at_ : mg x = some (.ref C)
  T : ClsE K C
  xf : XfC K C
  mono : ∀ ds H H' fs, Same H H' → R ds H fs → R ds H' fs
  ex : ∃ fI fd, PySem.W.findIn K (.ref C) "__init__" = some (some (.ref fI)) ∧ PySem.W.typeIn K (.ref fI) = some (.type "function") ∧ FnOk P w K mg base CX0 k fI fd ps (spErX C R vsOk) ∧ Binds K fd ps [] ∧ ∀ A, ka = some A → ∃ g : List Value → List Value → List Value, KBn K fd ps 1 [A] g (fun us zs => us ++ zs)
/-- what is wanted of an error that is kept -/
theorem kex_valE {C : Addr} {R : List PyData → Hp → List (Str × V) → Prop} {vsOk : List V → Hp → List PyData → Prop} {vs : List V} {H1 : Hp} {ds : List PyData} {E : XK} (hm : ∀ ds H H' fs, Same H H' → R ds H fs → R ds H' fs) (hl : vs.length ≤ 1000) (hv : vsOk vs H1 ds)
    (hE : ∀ (H' : Hp) (dd : Addr) (fs : List (Str × V)), (∀ b, H' b = none → Same H1 (upd H' b (erO b (.ref C) (some dd))) ∧ upd H' b (erO b (.ref C) (some dd)) dd = some (.xd fs) ∧ R ds (upd H' b (erO b (.ref C) (some dd))) fs) → E (.ref C) (some dd) H') :
    vs.length ≤ 1000 ∧ ∀ a, H1 a = none → spErX C R vsOk (.ref a :: vs) (upd H1 a (exo a C none)) (keEnd C a H1 E) (fun _ _ _ => False) := by
  refine ⟨hl, fun a na => ⟨a, vs, ds, rfl, upd_same, by rw [butD_free na]; exact hv, fun H' dx fs hs hdx ha hd hR => ?_⟩⟩
  have ndx : dx ≠ a := fun z => by rw [z, upd_same] at hdx; cases hdx
  rw [upd_ne ndx] at hdx
  refine ⟨rfl, dx, fs, ha, hd, hdx, hE _ _ fs fun b hb => ?_⟩
  have nb : ∀ {u : Addr} {o : HO}, upd (del H' a) dx (.xd fs) u = some o → u ≠ b := fun {u o} z => ne_of_none z hb
  have s1 : ∀ u o, H1 u = some o → upd (del H' a) dx (.xd fs) u = some o := fun u o z => by
    have n1 : u ≠ a := ne_of_none z na
    rw [upd_ne (ne_of_none z hdx), del_ne n1]
    exact hs u o n1 (by rw [upd_ne n1]; exact z)
  refine ⟨fun u o z => ?_, ?_, hm _ _ _ _ (fun u o z => ?_) hR⟩
  · rw [upd_ne (nb (s1 u o z))]
    exact s1 u o z
  · rw [upd_ne (nb (u := dx) upd_same), upd_same]
  · unfold butD at z
    split at z
    · cases z
    · rename_i n2
      split at z
      · cases z
      · rename_i n1
        have z4 : upd (del H' a) dx (.xd fs) u = some o := by
          rw [upd_ne n2, del_ne n1]
          exact newOf_same _ _ z
        rw [upd_ne (nb z4)]
        exact z4
section
variable {P : Program} {w : World} {K : PySem.W.Frag} {mg : Str → Option Value} {base : Heap} {j k : Nat} {X : Cx} {NS WS : List (Str × Nat)} {G : List Str} {x : Str} {C : Addr} {ps : List Str} {ka : Option Str} {R : List PyData → Hp → List (Str × V) → Prop} {vsOk : List V → Hp → List PyData → Prop} {e : Expr} {es : List Expr} {kws : List Keyword} {t tk : TA} {p pos : Pos}
end
end Tw
namespace Tw
open PySem PySem.Spec PyProof.Rows L2
/-! ### comprehensions whose items are data made anew; errors kept, told as data -/
/-- one argument, told as data; none -/
def vsX1 (K : PySem.W.Frag) : List V → Hp → List PyData → Prop := fun ws H ds => ∃ (v : V) (d : PyData) (c : Nat), ws = [v] ∧ ds = [d] ∧ Dp K H v d ∧ GoodD 8 d c ∧ c ≤ 1000000
def vsX0 : List V → Hp → List PyData → Prop := fun ws _ ds => ws = [] ∧ ds = []
/-- what the dict of an error with one argument holds; with none -/
def rE1 (K : PySem.W.Frag) (nm fld : Str) : List PyData → Hp → List (Str × V) → Prop := fun ds H fs => ∃ (d : PyData) (t : Addr) (g : V), ds = [d] ∧ fs.lookup ("code" : Str) = some (.str nm) ∧ fs.lookup ("details" : Str) = some (.ref t) ∧ fs.lookup fld = some g ∧ Dp K H (.ref t) (.tuple [d]) ∧ Dp K H g d
def rE0 (K : PySem.W.Frag) (nm : Str) : List PyData → Hp → List (Str × V) → Prop := fun ds H fs => ∃ t : Addr, ds = [] ∧ fs.lookup ("code" : Str) = some (.str nm) ∧ fs.lookup ("details" : Str) = some (.ref t) ∧ Dp K H (.ref t) (.tuple [])
theorem rE1_mono {K : PySem.W.Frag} {nm fld : Str} : ∀ ds H H' fs, Same H H' → rE1 K nm fld ds H fs → rE1 K nm fld ds H' fs := fun ds H H' fs s ⟨d, t, g, e, h1, h2, h3, h4, h5⟩ => ⟨d, t, g, e, h1, h2, h3, dp_same s _ _ h4, dp_same s _ _ h5⟩
theorem rE0_mono {K : PySem.W.Frag} {nm : Str} : ∀ ds H H' fs, Same H H' → rE0 K nm ds H fs → rE0 K nm ds H' fs := fun ds H H' fs s ⟨t, e, h1, h2, h4⟩ => ⟨t, e, h1, h2, dp_same s _ _ h4⟩
/-- an error that is kept: what it tells of the datum d under the names fld, code, details -/
def Er1 (K : PySem.W.Frag) (fld nm : Str) (d : PyData) (H : Hp) (v : V) : Prop := ∃ (a C dd : Addr) (m : List (Str × V)), v = .ref a ∧ H a = some (erO a (.ref C) (some dd)) ∧ XfC K C ∧ PySem.W.findIn K (.ref C) fld = some none ∧ PySem.W.findIn K (.ref C) "code" = some none ∧ PySem.W.findIn K (.ref C) "details" = some none ∧ H dd = some (.xd m) ∧ rE1 K nm fld [d] H m
theorem Er1.same {K : PySem.W.Frag} {fld nm : Str} {d : PyData} {H H' : Hp} {v : V} (h : Er1 K fld nm d H v) (s : Same H H') : Er1 K fld nm d H' v := by
  obtain ⟨a, C, dd, m, h1, h2, h3, h4, h5, h6, h7, h8⟩ := h
  exact ⟨a, C, dd, m, h1, s _ _ h2, h3, h4, h5, h6, s _ _ h7, rE1_mono _ _ _ _ s h8⟩
def Er0 (K : PySem.W.Frag) (nm : Str) (H : Hp) (v : V) : Prop := ∃ (a C dd : Addr) (m : List (Str × V)), v = .ref a ∧ H a = some (erO a (.ref C) (some dd)) ∧ XfC K C ∧ PySem.W.findIn K (.ref C) "code" = some none ∧ PySem.W.findIn K (.ref C) "details" = some none ∧ H dd = some (.xd m) ∧ rE0 K nm [] H m
theorem Er0.same {K : PySem.W.Frag} {nm : Str} {H H' : Hp} {v : V} (h : Er0 K nm H v) (s : Same H H') : Er0 K nm H' v := by
  obtain ⟨a, C, dd, m, h1, h2, h3, h5, h6, h7, h8⟩ := h
  exact ⟨a, C, dd, m, h1, s _ _ h2, h3, h5, h6, s _ _ h7, rE0_mono _ _ _ _ s h8⟩
/-- what is known of an error class with one argument, of one with none -/
structure KeV (P : Program) (w : World) (K : PySem.W.Frag) (mg : Str → Option Value) (base : Heap) (x fld : Str) (C : Addr) : Prop where
  k : KeX P w K mg base 10 x C ["self", fld] (some fld) (rE1 K x fld) (vsX1 K)
  n1 : PySem.W.findIn K (.ref C) fld = some none
  n2 : PySem.W.findIn K (.ref C) "code" = some none
  n3 : PySem.W.findIn K (.ref C) "details" = some none
structure KeV0 (P : Program) (w : World) (K : PySem.W.Frag) (mg : Str → Option Value) (base : Heap) (x : Str) (C : Addr) : Prop where
  k : KeX P w K mg base 10 x C ["self"] none (rE0 K x) vsX0
  n2 : PySem.W.findIn K (.ref C) "code" = some none
  n3 : PySem.W.findIn K (.ref C) "details" = some none
structure KeVp (P : Program) (w : World) (K : PySem.W.Frag) (mg : Str → Option Value) (base : Heap) (x fld : Str) (C : Addr) : Prop where
  v : KeV P w K mg base x fld C
  T : OexC K C
structure KeV0p (P : Program) (w : World) (K : PySem.W.Frag) (mg : Str → Option Value) (base : Heap) (x : Str) (C : Addr) : Prop where
  v : KeV0 P w K mg base x C
  T : OexC K C
section
variable {P : Program} {w : World} {K : PySem.W.Frag} {mg : Str → Option Value} {base : Heap} {j : Nat} {X : Cx} {NS WS : List (Str × Nat)} {G : List Str} {x fld : Str} {C : Addr} {e : Expr} {es : List Expr} {kws : List Keyword} {t tk : TA} {p pos : Pos}
end
section
variable {P : Program} {w : World} {K : PySem.W.Frag} {mg : Str → Option Value} {base : Heap} {x fld : Str} {C : Addr} {v : V} {d : PyData} {c : Nat} {H1 : Hp} {Q : VK}
theorem KeV.at {E : XK} (D : KeV P w K mg base x fld C) (hd : Dp K H1 v d) (hg : GoodD 8 d c) (hc : c ≤ 1000000) (hE : ∀ H' dd, (∀ b, H' b = none → Same H1 (upd H' b (erO b (.ref C) (some dd))) ∧ Er1 K fld x d (upd H' b (erO b (.ref C) (some dd))) (.ref b)) → E (.ref C) (some dd) H') :
    ∀ a, H1 a = none → spErX C (rE1 K x fld) (vsX1 K) (.ref a :: [v]) (upd H1 a (exo a C none)) (keEnd C a H1 E) (fun _ _ _ => False) :=
  (kex_valE rE1_mono (by show 1 ≤ 1000; decide) ⟨v, d, c, rfl, rfl, hd, hg, hc⟩ fun H' dd fs w => hE H' dd fun b hb => ⟨(w b hb).1, b, C, dd, fs, rfl, upd_same, D.k.xf, D.n1, D.n2, D.n3, (w b hb).2.1, (w b hb).2.2⟩).2
theorem KeV0.at {E : XK} (D : KeV0 P w K mg base x C) (hE : ∀ H' dd, (∀ b, H' b = none → Same H1 (upd H' b (erO b (.ref C) (some dd))) ∧ Er0 K x (upd H' b (erO b (.ref C) (some dd))) (.ref b)) → E (.ref C) (some dd) H') :
    ∀ a, H1 a = none → spErX C (rE0 K x) vsX0 (.ref a :: []) (upd H1 a (exo a C none)) (keEnd C a H1 E) (fun _ _ _ => False) :=
  (kex_valE rE0_mono (by show 0 ≤ 1000; decide) ⟨rfl, rfl⟩ fun H' dd fs w => hE H' dd fun b hb => ⟨(w b hb).1, b, C, dd, fs, rfl, upd_same, D.k.xf, D.n2, D.n3, (w b hb).2.1, (w b hb).2.2⟩).2
end
/-- errors in a list, each with its name and its datum -/
def ErL (K : PySem.W.Frag) (fld : Str) (d : PyData) (H : Hp) (xs : List V) (nms : List Str) : Prop := xs.length = nms.length ∧ ∀ (j : Nat) x nm, xs[j]? = some x → nms[j]? = some nm → Er1 K fld nm d H x
theorem ErL.nil {K : PySem.W.Frag} {fld : Str} {d : PyData} {H : Hp} : ErL K fld d H [] [] := ⟨rfl, fun j x nm h => by cases h⟩
theorem ErL.cons {K : PySem.W.Frag} {fld nm : Str} {d : PyData} {H : Hp} {x : V} {xs : List V} {nms : List Str} (h : Er1 K fld nm d H x) (t : ErL K fld d H xs nms) : ErL K fld d H (x :: xs) (nm :: nms) :=
  ⟨congrArg Nat.succ t.1, fun j y m h1 h2 => by
    cases j with
    | zero => cases h1; cases h2; exact h
    | succ j => exact t.2 j y m h1 h2⟩
theorem ErL.same {K : PySem.W.Frag} {fld : Str} {d : PyData} {H H' : Hp} {xs : List V} {nms : List Str} (h : ErL K fld d H xs nms) (s : Same H H') : ErL K fld d H' xs nms := ⟨h.1, fun j x nm h1 h2 => (h.2 j x nm h1 h2).same s⟩
end Tw
/-! what nextOf does (made by mkT108.py out of T87) with a zip of two tuples whose own tuple may be out -/
namespace RZ
open PySem PySem.Spec PyProof.Rows L2
section
variable {prog : Program} {w : World} {A : Around} {E : Value → Shared → Prop} {s : Shared}
end
end RZ
/-! enumerate of a zip of two tuples whose pairs are kept -/
namespace RZ
open PySem PySem.Spec PyProof.Rows L2
section
variable {prog : Program} {w : World} {A : Around} {E : Value → Shared → Prop} {s : Shared}
end
end RZ
/-! for n, pair in enumerate(zip(a, b)), a and b tuples, the pairs kept -/
namespace RZ
open PySem PySem.Spec PyProof.Rows L2
end RZ
namespace Tw
open PySem PySem.Spec PyProof.Rows L2
end Tw
namespace Tw
open PySem PySem.Spec PyProof.Rows L2 LamX
/-! ### a dict of keys seen; the first difference of two machines, as it is looked for -/
/-- keys that are tuples of ints, each told as True -/
def FdL (H : Hp) (d : Addr) (ks : List KeyL) : Prop := ∃ kvs : List (List Key × V), H d = some (.dT kvs) ∧ kvs.length ≤ ks.length ∧ ∀ c : KeyL, valV kvs (kyL c) = if c ∈ ks then some (.bl true) else none
theorem FdL.get {H : Hp} {d a : Addr} {ks : List KeyL} (h : FdL H d ks) {c : KeyL} (ha : H a = some (.tup (c.map V.int))) : DGet H d (.ref a) (if c ∈ ks then some (.bl true) else none) := by
  obtain ⟨kvs, h1, h2, h3⟩ := h
  rw [← kyL_kV] at ha
  have g := DGet.t (k := kyL c) h1 ha
  rw [h3 c] at g
  exact g
theorem FdL.put {H : Hp} {d a : Addr} {ks : List KeyL} (h : FdL H d ks) {c : KeyL} (ha : H a = some (.tup (c.map V.int))) (hl : ks.length < 1000) : ∃ kvs, DPut H d (.ref a) (.bl true) (upd H d (.dT kvs)) ∧ FdL (upd H d (.dT kvs)) d (ks ++ [c]) := by
  obtain ⟨kvs, h1, h2, h3⟩ := h
  rw [← kyL_kV] at ha
  refine ⟨putK kvs (kyL c) (.bl true), DPut.t (k := kyL c) h1 ha (small1000 (by omega)), _, upd_same, ?_, fun e => ?_⟩
  · have := length_putK kvs (kyL c) (V.bl true)
    rw [List.length_append]
    show _ ≤ ks.length + 1
    omega
  · rw [valV_put]
    by_cases q : e = c
    · subst q
      rw [if_pos rfl, if_pos (by simp)]
    · rw [if_neg (fun z => q (kyL_inj z)), h3 e]
      by_cases m : e ∈ ks
      · rw [if_pos m, if_pos (List.mem_append_left _ m)]
      · rw [if_neg m, if_neg (fun z => by
          rcases List.mem_append.mp z with z | z
          · exact m z
          · exact q (List.mem_singleton.mp z))]
theorem FdL.same {H H' : Hp} {d : Addr} {ks : List KeyL} (h : FdL H d ks) (e : Same H H') : FdL H' d ks := by
  obtain ⟨kvs, h1, h2⟩ := h
  exact ⟨kvs, e _ _ h1, h2⟩
theorem FdL.ne {H : Hp} {d a : Addr} {ks : List KeyL} {xs : List V} (h : FdL H d ks) (e : H a = some (.lst xs)) : a ≠ d := by
  obtain ⟨kvs, h1, h2⟩ := h
  exact ne_of e h1 (by intro q; cases q)
theorem FdL.lst {H : Hp} {d a : Addr} {ks : List KeyL} {xs ys : List V} (h : FdL H d ks) (e : H a = some (.lst xs)) : FdL (upd H a (.lst ys)) d ks := by
  have n := h.ne e
  obtain ⟨kvs, h1, h2⟩ := h
  exact ⟨kvs, by rw [upd_ne n.symm]; exact h1, h2⟩
/-- the two lists go together; each step tells a pair before it -/
structure StW (q : List KeyL × List (Int × Int)) : Prop where
  len : q.1.length = q.2.length
  back : ∀ (i : Nat) s, q.2[i]? = some s → 0 < i → 0 ≤ s.1 ∧ s.1 < (i : Int)
end Tw
namespace Tw
open PySem PySem.Spec PyProof.Rows L2 LamX
/-! ### where the search for a first difference ends -/
/-! the two machines of the law's end -/
end Tw
/-! T113: dicts whose keys are pairs of atoms and flat tuples -/
namespace NK
open PySem PySem.Spec PyProof.Rows L2
open PySem.Sem (wp)
/-- one half of a key -/
structure Half (prog : Program) (w : World) (K : Type) [DecidableEq K] where
  is : Heap → K → Value → Prop
  hash : K → Int
  draws : K → Nat
  inj : ∀ {h : Heap} {v : Value} {x y : K}, is h x v → is h y v → x = y
  keeps : ∀ {h h' : Heap} {k : K} {v : Value} {d : Addr} {o : Obj} {es ep}, is h k v → h.get? d = some o → o.data = .dict es ep → Heap.SameBut d h h' → is h' k v
  hashed : ∀ {A : Around} {E : Value → Shared → Prop} {s : Shared} {k : K} {v : Value} {Q : Int → Shared → Prop}, A.units < cLine → is s.heap k v → Q (hash k) { s with toks := s.toks + draws k } → wpAny (model prog w) A (pyHash v) Q E s
  equal : ∀ {A : Around} {E : Value → Shared → Prop} {s : Shared} {x y : K} {u v : Value} {Q : Bool → Shared → Prop}, A.units < cLine → is s.heap x u → is s.heap y v → Q (decide (x = y)) s → wpAny (model prog w) A (eqBool u v) Q E s
  still : ∀ {A : Around} {E : Value → Shared → Prop} {s : Shared} {k : K} {v : Value} {Q : Bool → Shared → Prop}, is s.heap k v → Q true s → wpAny (model prog w) A (eqIsQuiet 7 v) Q E s
section
variable {prog : Program} {w : World} {K : Type} [DecidableEq K]
theorem quiet_tup (knd : KeyKind prog w K) {A : Around} {E : Value → Shared → Prop} {s : Shared} {ks : List K} {a : Addr} {Q : Bool → Shared → Prop} (n : Nat) (hk : IsTupleKey knd s.heap ks a) (h : Q true s) :
    wpAny (model prog w) A (eqIsQuiet (n + 1) (.ref a)) Q E s := by
  have ty := hk.typeIs
  obtain ⟨ob, vs, m, hg, _, hd, hi⟩ := hk
  unfold eqIsQuiet
  refine wpAny_bind (wpAny_specialOf ty PySem.F.slot_tuple_eq.lookup ?_)
  refine wpAny_bind (wpAny_isInstance ty isSubtype_tuple_tuple ?_)
  rw [if_neg (by decide)]
  refine wpAny_bind (wpAny_seqItems hg hd (wpAny_bind ?_))
  rw [show forIn ((some vs).getD #[]) = @forIn _ _ _ _ _ vs from rfl, ← Array.forIn_toList]
  refine wpAny_forIn_list _ (fun l r t => (r.1 = none ∧ t = s) ∧ ∀ v, v ∈ l → carriedByValue v = true) _ (fun v l r t ⟨⟨e1, e2⟩, hl⟩ => ?_) (fun r t ⟨⟨e1, e2⟩, _⟩ => ?_) _ _ ⟨⟨rfl, rfl⟩, hi.byValue⟩
  · rw [eqIsQuiet_byValue n (hl v List.mem_cons_self)]
    refine wpAny_bind (wpAny_pure ?_)
    rw [if_neg (by decide)]
    exact wpAny_pure ⟨⟨rfl, e2⟩, fun u hu => hl u (List.mem_cons_of_mem _ hu)⟩
  · obtain ⟨r1, r2⟩ := r
    subst e2
    cases (show r1 = none from e1)
    exact wpAny_pure h
/-- a flat tuple -/
def flatH (knd : KeyKind prog w K) : Half prog w (List K) where
  is := fun h ks v => ∃ b, v = .ref b ∧ IsTupleKey knd h ks b
  hash := tupleKeyHash knd
  draws := fun ks => ks.length + 1
  inj := fun ⟨b, e, hx⟩ ⟨c, e', hy⟩ => by
    subst e
    injection e' with e'
    subst e'
    exact hx.inj hy
  keeps := fun ⟨b, e, x⟩ ho hd hs => ⟨b, e, x.keeps ho hd hs⟩
  hashed := fun hu ⟨b, e, hk⟩ q => by
    subst e
    exact wpAny_pyHash_tuple hu hk q
  equal := fun hu ⟨b, e, hx⟩ ⟨c, e', hy⟩ q => by
    subst e e'
    exact wpAny_eqBool_tuple hu hx hy q
  still := fun ⟨b, e, hk⟩ q => by
    subst e
    exact quiet_tup knd 6 hk q
end
section
variable {prog : Program} {w : World} {K L : Type} [DecidableEq K] [DecidableEq L] {kh : Half prog w K} {lh : Half prog w L} {A : Around} {E : Value → Shared → Prop} {s : Shared}
/-- a tuple of two halves -/
def IsPair (kh : Half prog w K) (lh : Half prog w L) (h : Heap) (k : K × L) (a : Addr) : Prop := ∃ u v, IsTup h a #[u, v] ∧ kh.is h k.1 u ∧ lh.is h k.2 v
def pairHash (kh : Half prog w K) (lh : Half prog w L) (k : K × L) : Int := reduceHash (Builtin.Tuple.tupleHashOf [kh.hash k.1, lh.hash k.2])
theorem IsPair.typeIs {k : K × L} {a : Addr} (x : IsPair kh lh s.heap k a) : s.TypeIs (.ref a) "tuple" := let ⟨_, _, t, _⟩ := x; t.typeIs
theorem IsPair.inj {h : Heap} {x y : K × L} {a : Addr} (hx : IsPair kh lh h x a) (hy : IsPair kh lh h y a) : x = y := by
  obtain ⟨u, v, ⟨o, e1, _, n, e2⟩, p1, p2⟩ := hx
  obtain ⟨u', v', ⟨o', e1', _, n', e2'⟩, p1', p2'⟩ := hy
  rw [e1] at e1'
  cases e1'
  rw [e2] at e2'
  injection e2' with e3 _
  injection e3 with e3
  injection e3 with e4 e5
  injection e5 with e5 _
  subst e4 e5
  exact Prod.ext (kh.inj p1 p1') (lh.inj p2 p2')
theorem IsPair.keeps {h h' : Heap} {k : K × L} {a d : Addr} {o : Obj} {es ep} (x : IsPair kh lh h k a) (ho : h.get? d = some o) (hd : o.data = .dict es ep) (hs : Heap.SameBut d h h') : IsPair kh lh h' k a := by
  obtain ⟨u, v, ⟨ob, e1, e0, n, e2⟩, p1, p2⟩ := x
  have ne : a ≠ d := fun z => by
    rw [z, ho] at e1
    cases e1
    rw [e2] at hd
    cases hd
  exact ⟨u, v, ⟨ob, (hs.2 a ne).trans e1, e0, n, e2⟩, kh.keeps p1 ho hd hs, lh.keeps p2 ho hd hs⟩
theorem quiet_pair {k : K × L} {a : Addr} {Q : Bool → Shared → Prop} (hk : IsPair kh lh s.heap k a) (h : Q true s) : wpAny (model prog w) A (eqIsQuiet 8 (.ref a)) Q E s := by
  have ty := hk.typeIs
  obtain ⟨u, v, ⟨ob, hg, _, m, hd⟩, p1, p2⟩ := hk
  unfold eqIsQuiet
  refine wpAny_bind (wpAny_specialOf ty PySem.F.slot_tuple_eq.lookup ?_)
  refine wpAny_bind (wpAny_isInstance ty isSubtype_tuple_tuple ?_)
  rw [if_neg (by decide)]
  refine wpAny_bind (wpAny_seqItems hg hd (wpAny_bind ?_))
  rw [show forIn ((some #[u, v]).getD #[]) = @forIn _ _ _ _ _ #[u, v] from rfl, ← Array.forIn_toList]
  refine wpAny_forIn_list _ (fun l r t => (r.1 = none ∧ t = s) ∧ ∀ x, x ∈ l → x = u ∨ x = v) _ (fun x l r t ⟨⟨e1, e2⟩, hl⟩ => ?_) (fun r t ⟨⟨e1, e2⟩, _⟩ => ?_) _ _ ⟨⟨rfl, rfl⟩, fun x hx => by simpa using hx⟩
  · subst e2
    have hx := hl x List.mem_cons_self
    have more : ∀ y, y ∈ l → y = u ∨ y = v := fun y hy => hl y (List.mem_cons_of_mem _ hy)
    rcases hx with hx | hx
    · subst hx
      refine wpAny_bind (kh.still p1 ?_)
      rw [if_neg (by decide)]
      exact wpAny_pure ⟨⟨rfl, rfl⟩, more⟩
    · subst hx
      refine wpAny_bind (lh.still p2 ?_)
      rw [if_neg (by decide)]
      exact wpAny_pure ⟨⟨rfl, rfl⟩, more⟩
  · obtain ⟨r1, r2⟩ := r
    subst e2
    cases (show r1 = none from e1)
    exact wpAny_pure h
theorem hash_pair {k : K × L} {a : Addr} {Q : Int → Shared → Prop} (hu : A.units + 1 < cLine) (hk : IsPair kh lh s.heap k a) (h : Q (pairHash kh lh k) { s with toks := s.toks + (kh.draws k.1 + lh.draws k.2 + 1) }) :
    wpAny (model prog w) A (pyHash (.ref a)) Q E s := by
  have ty := hk.typeIs
  obtain ⟨u, v, ⟨ob, hg, _, m, hd⟩, p1, p2⟩ := hk
  have p2' : ∀ t : Nat, lh.is ({ s with toks := t } : Shared).heap k.2 v := fun _ => p2
  unfold pyHash
  first | unfold pyHashByItsType | skip
  first | refine wpAny_bind (wpAny_cRoomFor_or (.inr (by omega)) ?_) | skip
  refine wpAny_bind (wpAny_specialOf ty PySem.F.slot_tuple_hash.lookup ?_)
  refine wpAny_bind (wpAny_specialOf ty PySem.F.slot_tuple_hash.lookup ?_)
  refine wpAny_bind (wpAny_callSpecialIfBoundUnlessNone?_slot ty PySem.F.slot_tuple_hash (wpAny_call_entry PySem.F.slot_tuple_hash ty PySem.F.entry_tuple_hash ?_ (PySem.F.args_tuple_hash_1 _)))
  refine (show wpAny (model prog w) A.in1 (Builtin.Tuple.tupleItemsOf (Value.ref a) >>= _) _ _ _ from wpAny_bind (wpAny_tupleItemsOf hg hd (wpAny_bind ?_)))
  rw [← Array.forIn_toList]
  refine wpAny_forIn_list _ (fun l (b : Array Int) t => (l = [u, v] ∧ b.toList = [] ∧ t = s) ∨ (l = [v] ∧ b.toList = [kh.hash k.1] ∧ t = { s with toks := s.toks + kh.draws k.1 }) ∨
    (l = [] ∧ b.toList = [kh.hash k.1, lh.hash k.2] ∧ t = { s with toks := s.toks + kh.draws k.1 + lh.draws k.2 })) _ (fun x l b t hI => ?_) (fun b t hI => ?_) _ _ (.inl ⟨rfl, rfl, rfl⟩)
  · rcases hI with ⟨e1, e2, e3⟩ | ⟨e1, e2, e3⟩ | ⟨e1, _, _⟩
    · injection e1 with e1 e4
      subst e1 e3 e4
      refine wpAny_bind (kh.hashed hu p1 (wpAny_pure ?_))
      exact .inr (.inl ⟨rfl, by rw [Array.toList_push, e2]; rfl, rfl⟩)
    · injection e1 with e1 e4
      subst e1 e3 e4
      refine wpAny_bind (lh.hashed hu (p2' _) (wpAny_pure ?_))
      exact .inr (.inr ⟨rfl, by rw [Array.toList_push, e2]; rfl, rfl⟩)
    · cases e1
  · rcases hI with ⟨e1, _⟩ | ⟨e1, _⟩ | ⟨_, e2, e3⟩
    · cases e1
    · cases e1
    · subst e3
      show wpAny _ _ (retInt (Builtin.Tuple.tupleHashOf b.toList)) _ _ _
      rw [e2]
      refine wpAny_ret_mkInt ?_
      unfold pairHash at h
      generalize Builtin.Tuple.tupleHashOf [kh.hash k.1, lh.hash k.2] = z at h ⊢
      unfold reduceHash at h
      show wpAny _ _ (pyHashByItsType.reduced z) Q E _
      unfold pyHashByItsType.reduced
      by_cases c : (decide (-(2 : Int) ^ 63 ≤ z) && decide (z < 2 ^ 63)) = true
      · rw [if_pos c] at h
        rw [if_pos c]
        exact wpAny_pure (by simpa [Nat.add_assoc] using h)
      · rw [if_neg c] at h
        rw [if_neg c]
        exact wpAny_bind (wpAny_rule (wpAny_pure (by simpa [Nat.add_assoc] using h)))
theorem eqtree_pair {x y : K × L} {a b : Addr} {R : Fin → Shared → Prop} (hu : A.units < cLine) (hx : IsPair kh lh s.heap x a) (hy : IsPair kh lh s.heap y b) (h : R (.done (.ret (.bool (decide (x = y))))) s) :
    wpAny (model prog w) A (Builtin.«tuple.__eq__» ⟨[.ref a, .ref b], []⟩) R E s := by
  have ty := hy.typeIs
  obtain ⟨u, v, ⟨oa, ga, _, na, da⟩, p1, p2⟩ := hx
  obtain ⟨u', v', ⟨ob, gb, _, nb, db⟩, q1, q2⟩ := hy
  refine (show wpAny (model prog w) A (isInstance (.ref b) (.type "tuple") >>= _) _ _ s from wpAny_bind (wpAny_isInstance ty isSubtype_tuple_tuple ?_))
  rw [if_neg (by decide)]
  refine wpAny_bind (wpAny_tupleItemsOf ga da (wpAny_bind (wpAny_tupleItemsOf gb db (wpAny_bind ?_))))
  rw [show (#[u, v] : Array Value).toList.zip (#[u', v'] : Array Value).toList = [(u, u'), (v, v')] from rfl, List.forIn_cons]
  refine wpAny_bind (wpAny_bind (kh.equal hu p1 q1 ?_))
  by_cases c : x.1 = y.1
  · rw [decide_eq_true c, if_neg (by decide)]
    refine wpAny_pure ?_
    show wpAny _ _ (forIn [(v, v')] _ _) _ _ _
    rw [List.forIn_cons]
    refine wpAny_bind (wpAny_bind (lh.equal hu p2 q2 ?_))
    have e : decide (x = y) = decide (x.2 = y.2) := decide_eq_decide.mpr ⟨fun z => by rw [z], fun z => Prod.ext c z⟩
    rw [e] at h
    by_cases d : x.2 = y.2
    · rw [decide_eq_true d] at h
      rw [decide_eq_true d, if_neg (by decide)]
      refine wpAny_pure ?_
      show wpAny _ _ (forIn [] _ _) _ _ _
      rw [List.forIn_nil]
      exact wpAny_pure (wpAny_pure h)
    · rw [decide_eq_false d] at h
      rw [decide_eq_false d, if_pos (by decide)]
      exact wpAny_bind (wpAny_pure (wpAny_pure (wpAny_pure (wpAny_pure h))))
  · rw [decide_eq_false fun z => c (by rw [z])] at h
    rw [decide_eq_false c, if_pos (by decide)]
    exact wpAny_bind (wpAny_pure (wpAny_pure (wpAny_pure (wpAny_pure h))))
theorem eqBool_pair {x y : K × L} {a b : Addr} {Q : Bool → Shared → Prop} (hu : A.units + 1 < cLine) (hx : IsPair kh lh s.heap x a) (hy : IsPair kh lh s.heap y b) (h : Q (decide (x = y)) s) : wpAny (model prog w) A (eqBool (.ref a) (.ref b)) Q E s := by
  unfold eqBool
  try with_reducible refine wpAny_holding ?_
  by_cases c : (Value.ref a == Value.ref b) = true
  · have e := eq_of_beq c
    injection e with e
    subst e
    cases hx.inj hy
    rw [decide_eq_true rfl] at h
    exact (show wpAny _ _ (if (Value.ref a == Value.ref a) = true then _ else _) _ _ _ from by rw [if_pos c]; exact wpAny_bind (wpAny_rule (wpAny_pure h)))
  · exact (show wpAny _ _ (if (Value.ref a == Value.ref b) = true then _ else _) _ _ _ from by
      rw [if_neg c]
      exact wpAny_bind (wpAny_richCompare_same_room (op := .Eq) hx.typeIs hy.typeIs PySem.F.slot_tuple_eq (wpAny_call_entry PySem.F.slot_tuple_eq hx.typeIs PySem.F.entry_tuple_eq (eqtree_pair hu hx hy ⟨_, rfl, (fun e => nomatch e), wpAny_truthy_bool h⟩) (PySem.F.args_tuple_eq_2 _ _)) (by omega)))
/-- the kind of keys that are pairs -/
def pairKind (kh : Half prog w K) (lh : Half prog w L) : HeapKind prog w (K × L) where
  is := IsPair kh lh
  hash := pairHash kh lh
  draws := fun k => kh.draws k.1 + lh.draws k.2 + 1
  room := fun A => A.units + 1 < cLine
  inj := fun hx hy => hx.inj hy
  keeps := fun x ho hd hs => x.keeps ho hd hs
  pyHash := fun hu hk h => hash_pair hu hk h
  eqBool := fun hu hx hy h => eqBool_pair hu hx hy h
  quiet := fun hk h => quiet_pair hk h
end
/-- a half of a key, as the hand layer's heap tells it -/
structure HH (K : Type) [DecidableEq K] where
  half : ∀ (P : Program) (w : World), Half P w K
  at_ : Hp → K → V → Prop
  ok : ∀ {P : Program} {w : World} {H : Hp} {h : Heap} {k : K} {x : V} {u : Value}, HOk P w H h → at_ H k x → RelV x u → (half P w).is h k u
  stay : ∀ {H H' : Hp} {k : K} {x : V}, at_ H k x → (∀ b ys, H b = some (.tup ys) → H' b = some (.tup ys)) → at_ H' k x
def fH : HH (List L2.Key) where
  half := fun P w => flatH (mixKind P w)
  at_ := fun H ks x => ∃ b, x = .ref b ∧ H b = some (.tup (ks.map kV))
  ok := fun ok ⟨b, e, hb⟩ r => by
    subst e
    exact ⟨b, r, key_of ok hb⟩
  stay := fun ⟨b, e, hb⟩ t => ⟨b, e, t _ _ hb⟩
section
variable {K L : Type} [DecidableEq K] [DecidableEq L] (A : HH K) (B : HH L)
/-- the key k at b -/
def KeyAt (H : Hp) (k : K × L) (b : Addr) : Prop := ∃ x y, H b = some (.tup [x, y]) ∧ A.at_ H k.1 x ∧ B.at_ H k.2 y
/-- all keys of a dict -/
def KeysAt (H : Hp) (kvs : List ((K × L) × Addr × V)) : Prop := ∀ p, p ∈ kvs → KeyAt A B H p.1 p.2.1
abbrev NKV : List ((K × L) × Addr × V) → List ((K × L) × Addr × Value) → Prop := Paired fun p q => p.1 = q.1 ∧ p.2.1 = q.2.1 ∧ RelV p.2.2 q.2.2
def valN (kvs : List ((K × L) × Addr × V)) (k : K × L) : Option V := (kvs.find? fun p => decide (p.1 = k)).map (·.2.2)
/-- the dict at a -/
def DNo (P : Program) (w : World) (a : Addr) (kvs : List ((K × L) × Addr × V)) : HO := .ext fun h => kvs.length ≤ sizeLine ∧ (a == sysModules) = false ∧ ∃ xs : List ((K × L) × Addr × Value), NKV kvs xs ∧
  ∃ o es ep, h.get? a = some o ∧ o.ExactDict ∧ o.data = .dict es ep ∧ es.toList = xs.map (entryOfKey (pairKind (A.half P w) (B.half P w))) ∧ (xs.map (·.1)).Nodup
variable {A B}
theorem KeyAt.stay {H H' : Hp} {k : K × L} {b : Addr} (h : KeyAt A B H k b) (t : ∀ b ys, H b = some (.tup ys) → H' b = some (.tup ys)) : KeyAt A B H' k b :=
  let ⟨x, y, e, h1, h2⟩ := h
  ⟨x, y, t _ _ e, A.stay h1 t, B.stay h2 t⟩
theorem KeysAt.stay {H H' : Hp} {kvs : List ((K × L) × Addr × V)} (h : KeysAt A B H kvs) (t : ∀ b ys, H b = some (.tup ys) → H' b = some (.tup ys)) : KeysAt A B H' kvs := fun p hp => (h p hp).stay t
theorem KeyAt.is {P : Program} {w : World} {H : Hp} {h : Heap} {k : K × L} {b : Addr} (ok : HOk P w H h) (x : KeyAt A B H k b) : (pairKind (A.half P w) (B.half P w)).is h k b := by
  obtain ⟨v1, v2, e, h1, h2⟩ := x
  obtain ⟨_, its, r, o, g1, g2, n, g3⟩ := (show ObjOk P w H h b (.tup [v1, v2]) from ok b _ e)
  cases r with
  | cons r1 r =>
    cases r with
    | cons r2 r =>
      cases r
      exact ⟨_, _, ⟨o, g1, g2, n, g3⟩, A.ok ok h1 r1, B.ok ok h2 r2⟩
theorem NKV.val {kvs : List ((K × L) × Addr × V)} {xs : List ((K × L) × Addr × Value)} (r : NKV kvs xs) (k : K × L) : RelO (valN kvs k) ((atKey xs k).map (·.2)) := by
  unfold valN atKey
  induction r with
  | nil => exact True.intro
  | @cons p q ps qs h t ih =>
    obtain ⟨e, _, e2⟩ := h
    by_cases c : p.1 = k
    · rw [List.find?_cons_of_pos (by rw [c]; exact decide_eq_true rfl), List.find?_cons_of_pos (by rw [← e, c]; exact decide_eq_true rfl)]
      exact e2
    · rw [List.find?_cons_of_neg (by rw [decide_eq_false c]; decide), List.find?_cons_of_neg (by rw [← e, decide_eq_false c]; decide)]
      exact ih
theorem NKV.len {kvs : List ((K × L) × Addr × V)} {xs : List ((K × L) × Addr × Value)} (r : NKV kvs xs) : kvs.length = xs.length := Paired.length r
section
variable {P : Program} {w : World} {H : Hp} {h : Heap} {a : Addr} {kvs : List ((K × L) × Addr × V)}
theorem keys_is {xs : List ((K × L) × Addr × Value)} (ok : HOk P w H h) (r : NKV kvs xs) (ks : KeysAt A B H kvs) : ∀ x ∈ xs, (pairKind (A.half P w) (B.half P w)).is h x.1 x.2.1 := by
  induction r with
  | nil => intro x hx; cases hx
  | @cons p q ps qs hq t ih =>
    intro x hx
    rcases List.mem_cons.mp hx with e | hx
    · subst e
      have := (ks p List.mem_cons_self).is ok
      rw [hq.1, hq.2.1] at this
      exact this
    · exact ih (fun y hy => ks y (List.mem_cons_of_mem _ hy)) x hx
theorem dn_of (ok : HOk P w H h) (e : H a = some (DNo A B P w a kvs)) (ks : KeysAt A B H kvs) : kvs.length ≤ sizeLine ∧ (a == sysModules) = false ∧ ∃ xs, NKV kvs xs ∧ h.DictOfH (pairKind (A.half P w) (B.half P w)) a xs := by
  obtain ⟨⟨z, hd, xs, r, o, es, ep, h1, h2, h3, h4, h5⟩, _, _⟩ := (show ObjOk P w H h a (DNo A B P w a kvs) from ok a _ e)
  exact ⟨z, hd, xs, r, o, es, ep, h1, h2, h3, h4, keys_is ok r ks, h5⟩
theorem dn_ok {H' : Hp} {h' : Heap} {xs : List ((K × L) × Addr × Value)} (z : kvs.length ≤ sizeLine) (hd : (a == sysModules) = false) (r : NKV kvs xs) (dd : h'.DictOfH (pairKind (A.half P w) (B.half P w)) a xs) : ObjOk P w H' h' a (DNo A B P w a kvs) := by
  obtain ⟨o, es, ep, h1, h2, h3, h4, _, h5⟩ := dd
  refine ⟨⟨z, hd, xs, r, o, es, ep, h1, h2, h3, h4, h5⟩, ⟨o, h1⟩, fun g1 g2 ⟨z, hd, xs, r, o, es, ep, h1, q⟩ k => ⟨z, hd, xs, r, o, es, ep, k _ h1, q⟩⟩
end
/-- what the dict at a holds at the key y -/
def DGetN (A : HH K) (B : HH L) (P : Program) (w : World) (H : Hp) (a : Addr) (y : V) (r : Option V) : Prop := ∃ kvs k b, H a = some (DNo A B P w a kvs) ∧ KeysAt A B H kvs ∧ y = .ref b ∧ KeyAt A B H k b ∧ r = valN kvs k
/-- the heap behind a[y] = v, y a new key -/
def DPutN (A : HH K) (B : HH L) (P : Program) (w : World) (H : Hp) (a : Addr) (y v : V) (H' : Hp) : Prop := ∃ kvs k b, H a = some (DNo A B P w a kvs) ∧ KeysAt A B H kvs ∧ y = .ref b ∧ KeyAt A B H k b ∧ valN kvs k = none ∧ kvs.length < sizeLine ∧ H' = upd H a (DNo A B P w a (kvs ++ [(k, b, v)]))
section
variable {X : Cx} {pins : List (Addr × Obj)} {σ : L2.St} {H : Hp} {s : Shared} {a : Addr} {y v : V} {u r : Value} {o : Option V} {E : Value → Shared → Prop} {A0 : Around}
theorem n_getItem {Q : Value → Shared → Prop} (hu : A0.units + 2 < cLine) (I : Inv X pins σ H s) (g : DGetN A B X.prog X.w H a y (some v)) (ry : RelV y u) (h : ∀ w' s', Inv X pins σ H s' → RelV v w' → Q w' s') : wpAny (model X.prog X.w) A0 (getItem (.ref a) u) Q E s := by
  obtain ⟨kvs, k, b, e, ks, ey, kb, l⟩ := g
  subst ey
  cases (show u = Value.ref b from ry)
  obtain ⟨z, hd, xs, rel, dd⟩ := dn_of I.hok e ks
  obtain ⟨w', hw, rw'⟩ := RelO.some_of (v := v) (o := (atKey xs k).map (·.2)) (by rw [l]; exact rel.val k)
  obtain ⟨p, hp, hp2⟩ := Option.map_eq_some_iff.mp hw
  refine wpAny_getItem_heap (knd := pairKind (A.half X.prog X.w) (B.half X.prog X.w)) (by show A0.units + 1 + 1 < cLine; omega) (kb.is I.hok) dd hp ?_
  rw [hp2]
  exact h w' _ (I.tok _) rw'
theorem n_notIn {Q : Value → Shared → Prop} (hu : A0.units + 2 < cLine) (I : Inv X pins σ H s) (g : DGetN A B X.prog X.w H a y o) (ry : RelV y u) (h : ∀ s', Inv X pins σ H s' → Q (.bool (!o.isSome)) s') : wpAny (model X.prog X.w) A0 (compareOp .NotIn u (.ref a)) Q E s := by
  obtain ⟨kvs, k, b, e, ks, ey, kb, l⟩ := g
  subst ey
  cases (show u = Value.ref b from ry)
  obtain ⟨z, hd, xs, rel, dd⟩ := dn_of I.hok e ks
  refine wpAny_notIn_heap (knd := pairKind (A.half X.prog X.w) (B.half X.prog X.w)) (by show A0.units + 1 + 1 < cLine; omega) (kb.is I.hok) hd dd ?_
  have q := (rel.val k).isSome_eq
  rw [Option.isSome_map] at q
  rw [← q, ← l]
  exact h _ (I.tok _)
theorem n_setItem {H' : Hp} {Q : Unit → Shared → Prop} (hu : A0.units + 2 < cLine) (I : Inv X pins σ H s) (g : DPutN A B X.prog X.w H a y v H') (ry : RelV y u) (rv : RelV v r) (h : ∀ s', Inv X pins σ H' s' → Q () s') : wpAny (model X.prog X.w) A0 (setItem (.ref a) u r) Q E s := by
  obtain ⟨kvs, k, b, e, ks, ey, kb, ln, lz, eH⟩ := g
  subst ey eH
  cases (show u = Value.ref b from ry)
  obtain ⟨z, hd, xs, rel, dd⟩ := dn_of I.hok e ks
  have hz : xs.length ≤ sizeLine := by rw [← rel.len]; exact z
  have no : atKey xs k = none := by
    have q := rel.val k
    rw [ln] at q
    cases c : atKey xs k with
    | none => rfl
    | some p =>
      rw [c] at q
      exact (show False from q).elim
  refine wpAny_setItem_heap (knd := pairKind (A.half X.prog X.w) (B.half X.prog X.w)) (hsz := hz) (by show A0.units + 1 + 1 < cLine; omega) (kb.is I.hok) dd fun h' dd' hs => h _ ?_
  rw [storedH_new no] at dd'
  have he : ∃ q, h'.get? a = some q := let ⟨q, _, _, hq, _⟩ := dd'; ⟨q, hq⟩
  exact d_write I (by rw [e]; exact True.intro) hs he (dn_ok (by rw [List.length_append]; exact lz) hd (Paired.snoc rel ⟨rfl, rfl, rv⟩) dd')
theorem dn_empty {P : Program} {w : World} {H : Hp} (h : Heap) (hb : sysModules < h.objs.size) : ObjOk P w H (h.push { cls := .type "dict", data := .dict #[] }) h.objs.size (DNo A B P w h.objs.size []) :=
  dn_ok (Nat.zero_le _) (beq_eq_false_iff_ne.mpr (Ne.symm (Nat.ne_of_lt hb))) .nil (Heap.DictOfH.new h)
/-- {}, to be such a dict -/
def tDNewN (A : HH K) (B : HH L) (P : Program) (w : World) : TE := fun _ H Q => ∀ p, H p = none → Q (.ref p) (upd H p (DNo A B P w p []))
theorem pe_dnewN {X : Cx} {pos : Pos} : PE X (.Dict [] [] pos) (tDNewN A B X.prog X.w) := ⟨fun pins s σ H Q I h =>
  wpAny_Dict_empty ⟨.ref s.heap.objs.size, _, I.laid (a := s.heap.objs.size) (o := DNo A B X.prog X.w s.heap.objs.size []) (t' := s.toks) (fun _ _ q => Heap.get?_push_of_some _ q) (Nat.le_refl _) (dn_empty s.heap I.big), rfl, h _ (I.hok.fresh (Nat.le_refl _))⟩⟩
theorem n_typeIs {X : Cx} {pins : List (Addr × Obj)} {σ : L2.St} {H : Hp} {s : Shared} {a : Addr} {y : V} {o : Option V} (I : Inv X pins σ H s) (g : DGetN A B X.prog X.w H a y o) : s.TypeIs (.ref a) "dict" := by
  obtain ⟨kvs, k, b, e, ks, _⟩ := g
  obtain ⟨_, _, xs, _, dd⟩ := dn_of I.hok e ks
  exact dd.typeIs
/-- d[y] -/
def tDGetN (A : HH K) (B : HH L) (P : Program) (w : World) (td ty : TE) : TE := fun σ H Q => td σ H fun x H1 => ty σ H1 fun y H2 => ∃ a v, x = .ref a ∧ DGetN A B P w H2 a y (some v) ∧ Q v H2
/-- y not in d -/
def tDNotInN (A : HH K) (B : HH L) (P : Program) (w : World) (ty td : TE) : TE := fun σ H Q => ty σ H fun y H1 => td σ H1 fun x H2 => ∃ a o, x = .ref a ∧ DGetN A B P w H2 a y o ∧ Q (.bl (!o.isSome)) H2
/-- d[y] = v, y new -/
def sDPutN (A : HH K) (B : HH L) (P : Program) (w : World) (td ty tv : TE) : TS := fun D σ H => tv σ H fun v H1 => td σ H1 fun x H2 => ty σ H2 fun y H3 => ∃ a H4, x = .ref a ∧ DPutN A B P w H3 a y v H4 ∧ D.nx σ H4
section
variable {X : Cx} {o i e value : Expr} {pos pos' tpos : Pos} {td ty tv : TE}
theorem pe_dgetN (hu : X.A.units + 2 < cLine) (ho : PE X o td) (hi : PE X i ty) (hs : NoSl i) : PE X (.Subscript o i pos) (tDGetN A B X.prog X.w td ty) := by
  refine ⟨fun pins s σ H Q I h => subD_of PySem.F.slot_dict_getitem.lookup hs (thn (ho.run pins s σ H _ I h) fun u s1 ⟨x, H1, I1, rx, q1⟩ => thn (hi.run pins s1 σ H1 _ I1 q1) fun iv s2 ⟨y, H2, I2, ry, a, v, ex, g, q2⟩ => ?_)⟩
  subst ex
  cases (show u = Value.ref a from rx)
  exact ⟨n_typeIs I2 g, n_getItem hu I2 g ry fun w' s3 I3 rw' => ⟨v, H2, I3, rw', q2⟩⟩
theorem pc_dnotinN (hu : X.A.units + 2 < cLine) (hi : PE X i ty) (ho : PE X o td) : PC X .NotIn i o (tDNotInN A B X.prog X.w ty td) := by
  refine ⟨fun pins s σ H Q I h => thn (hi.run pins s σ H _ I h) fun iv s1 ⟨y, H1, I1, ry, q1⟩ => thn (ho.run pins s1 σ H1 _ I1 q1) fun u s2 ⟨x, H2, I2, rx, a, ov, ex, g, q2⟩ => ?_⟩
  subst ex
  cases (show u = Value.ref a from rx)
  exact n_notIn hu I2 g ry fun s3 I3 => ⟨.bl (!ov.isSome), H2, I3, rfl, q2⟩
theorem ps_dputN (hu : X.A.units + 2 < cLine) (ho : PE X o td) (hi : PE X i ty) (hv : PE X value tv) (hs : swapsWith value (some (.Subscript o i pos')) pos.line X.env = pure false) : PS X (.Assign [.Subscript o i pos'] value pos) (sDPutN A B X.prog X.w td ty tv) := by
  refine ⟨fun pins s σ H D I h => wpAny_Assign_Subscript (thn (hv.run pins s σ H _ I h) fun r s1 ⟨v, H1, I1, rv, q1⟩ => thn (ho.run pins s1 σ H1 _ I1 q1) fun u s2 ⟨x, H2, I2, rx, q2⟩ => thn (hi.run pins s2 σ H2 _ I2 q2) fun iv s3 ⟨y, H3, I3, ry, a, H4, ex, g, q3⟩ => ?_) hs⟩
  subst ex
  cases (show u = Value.ref a from rx)
  exact n_setItem hu I3 g ry rv fun s4 I4 => ⟨σ, H4, I4, q3⟩
end
section
variable {X : Cx} {pins : List (Addr × Obj)} {σ : L2.St} {H : Hp} {s : Shared} {a b : Addr} {k : K × L} {kvs : List ((K × L) × Addr × V)} {d : V} {r : Value} {E : Value → Shared → Prop} {A0 : Around}
end
section
variable {X : Cx} {o e f : Expr} {td ty tx : TE} {apos cpos : Pos}
end
end
end
end NK
/-! T114: zip of two lists whose pairs are kept (T83 and T87 say the same of tuples) -/
namespace RZ
open PySem PySem.Spec PyProof.Rows L2
/-- what next does with a zip of two tuples whose own tuple may be out (to be proved) -/
structure ZipKeptL (prog : Program) (w : World) : Prop where
  item : ∀ {A : Around} {E : Value → Shared → Prop} {s : Shared} {z TI TO i1 i2 l1 l2 : Addr} {k1 k2 : Nat} {xs ys : Array Value} {x y a b : Value} {Q : Option Value → Shared → Prop}, ZipApart z TI TO i1 i2 l1 l2 →
    IsZk s.heap z TI TO → IsPair s.heap TI (.ref i1) (.ref i2) → IsPair s.heap TO a b → s.heap.IsListIter i1 l1 k1 → s.heap.IsListIter i2 l2 k2 → s.heap.IsList l1 xs → s.heap.IsList l2 ys → xs[k1]? = some x → ys[k2]? = some y →
    (∀ h', IsZk h' z TI TO → (∃ c d, IsPair h' TO c d) → h'.IsListIter i1 l1 (k1 + 1) → h'.IsListIter i2 l2 (k2 + 1) → IsPair h' s.heap.objs.size x y → h'.objs.size = s.heap.objs.size + 1 →
      (∀ c o, c ≠ z → c ≠ TO → c ≠ i1 → c ≠ i2 → s.heap.get? c = some o → h'.get? c = some o) → Q (some (.ref s.heap.objs.size)) { s with heap := h' }) → wpAny (model prog w) A (pyNext (.ref z)) Q E s
  done : ∀ {A : Around} {E : Value → Shared → Prop} {s : Shared} {z TI TO i1 i2 l1 l2 : Addr} {k1 k2 : Nat} {xs ys : Array Value} {a b : Value} {Q : Option Value → Shared → Prop}, A.handled = none → ZipApart z TI TO i1 i2 l1 l2 →
    IsZk s.heap z TI TO → IsPair s.heap TI (.ref i1) (.ref i2) → IsPair s.heap TO a b → s.heap.IsListIter i1 l1 k1 → s.heap.IsListIter i2 l2 k2 → s.heap.IsList l1 xs → s.heap.IsList l2 ys → (xs[k1]? = none ∨ ys[k2]? = none) →
    (∀ h', (∀ c o, c ≠ z → c ≠ TO → c ≠ i1 → c ≠ i2 → s.heap.get? c = some o → h'.get? c = some o) → Q none { s with heap := h' }) → wpAny (model prog w) A (pyNext (.ref z)) Q E s
section
variable {prog : Program} {w : World} {A : Around} {E : Value → Shared → Prop} {s : Shared}
end
end RZ
namespace Tw
open PySem PySem.Spec PyProof.Rows L2
local macro_rules | `(tactic| walk_at "mem") => `(tactic| with_reducible (first | exact p0 | exact pS p0 | exact pS (pS p0) | exact pS (pS (pS p0)) | exact pS (pS (pS (pS p0))) | exact pS (pS (pS (pS (pS p0)))) | exact pS (pS (pS (pS (pS (pS p0))))) | exact pS (pS (pS (pS (pS (pS (pS p0)))))) | exact pS (pS (pS (pS (pS (pS (pS (pS p0))))))) | exact pS (pS (pS (pS (pS (pS (pS (pS (pS p0)))))))) | exact pS (pS (pS (pS (pS (pS (pS (pS (pS (pS p0))))))))) | exact pS (pS (pS (pS (pS (pS (pS (pS (pS (pS (pS p0)))))))))) | exact pS (pS (pS (pS (pS (pS (pS (pS (pS (pS (pS (pS p0))))))))))) | exact pS (pS (pS (pS (pS (pS (pS (pS (pS (pS (pS (pS (pS p0)))))))))))) | exact pS (pS (pS (pS (pS (pS (pS (pS (pS (pS (pS (pS (pS (pS p0))))))))))))) | exact pS (pS (pS (pS (pS (pS (pS (pS (pS (pS (pS (pS (pS (pS (pS p0)))))))))))))) | exact pS (pS (pS (pS (pS (pS (pS (pS (pS (pS (pS (pS (pS (pS (pS (pS p0))))))))))))))) | exact pS (pS (pS (pS (pS (pS (pS (pS (pS (pS (pS (pS (pS (pS (pS (pS (pS p0))))))))))))))))))
local macro_rules | `(tactic| walk_at "as") => `(tactic| with_reducible assumption)
local macro_rules | `(tactic| walk_at "pv") => `(tactic| (refine' n_v (by walk_at "as") ?vm; (case vm => walk_at "mem")))
local macro_rules | `(tactic| walk_at "pa") => `(tactic| first | exact pa_nil | (refine' pa_cons ?pa1 ?pa2; (case pa1 => walk_at "pe"); (case pa2 => walk_at "pa")))
local macro_rules | `(tactic| walk_at "op") => `(tactic| with_reducible (first | exact op_add | exact op_sub | exact op_mul | exact op_mod | exact op_fdiv | exact op_pow))
local macro_rules | `(tactic| walk_at "cmp") => `(tactic| with_reducible (first | exact op_eq | exact op_ne | exact op_lt | exact op_le | exact op_gt | exact op_ge | exact op_notN | exact op_isN))
local macro_rules | `(tactic| walk_at "blt") => `(tactic| first
  | (refine' n_len (by walk_at "as") (by walk_at "as") ?bg ?ba; (case bg => walk_at "mem"); (case ba => walk_at "pa"))
  | (refine' n_t (x := "int") (by walk_at "as") (by walk_at "as") call_int1 PyProof.Rows.boot_int ?bg ?ba; (case bg => walk_at "mem"); (case ba => walk_at "pa"))
  | (refine' n_b (x := "abs") (by walk_at "as") (by walk_at "as") call_abs boot_abs ?bg ?ba; (case bg => walk_at "mem"); (case ba => walk_at "pa"))
  | (refine' n_t (x := "list") (by walk_at "as") (by walk_at "as") call_list_of PyProof.Rows.boot_list ?bg ?ba; (case bg => walk_at "mem"); (case ba => walk_at "pa"))
  | (refine' n_t (x := "tuple") (by walk_at "as") (by walk_at "as") call_tuple_of PyProof.Rows.boot_tuple ?bg ?ba; (case bg => walk_at "mem"); (case ba => walk_at "pa"))
  | (refine' n_isiT (by walk_at "as") (by walk_at "as") ?bg (pa_cons ?i1 (pa_cons (pe_tup ?i2) pa_nil)); (case bg => walk_at "mem"); (case i1 => walk_at "pe"); (case i2 => walk_at "pa"))
  | (refine' n_isi (by walk_at "as") (by walk_at "as") ?bg ?ba; (case bg => walk_at "mem"); (case ba => walk_at "pa"))
  | (refine' n_b (x := "all") (by walk_at "as") (by walk_at "as") (cr_all (Nm.calm (by walk_at "as"))) PyProof.Rows.boot_all ?bg ?ba; (case bg => walk_at "mem"); (case ba => walk_at "pa")))
local macro_rules | `(tactic| walk_at "usr") => `(tactic| (refine' n_d (by walk_at "as") (by walk_at "as") (by decide) ?ug ?ua; (case ug => walk_at "mem"); (case ua => walk_at "pa")))
local macro_rules | `(tactic| walk_at "po") => `(tactic| first | exact po_none | (refine' po_some ?poe; (case poe => walk_at "pe")))
local macro_rules | `(tactic| walk_at "gl") => `(tactic| first
  | (refine' n_glR (by walk_at "as") (by walk_at "as") ?gg; (case gg => walk_at "mem"))
  | (refine' n_glI (by walk_at "as") (by walk_at "as") ?gg; (case gg => walk_at "mem"))
  | (refine' n_bv (x := "int") (v := V.ty "int") (by walk_at "as") (by walk_at "as") PyProof.Rows.boot_int rfl ?gg; (case gg => walk_at "mem"))
  | (refine' n_bv (x := "bool") (v := V.ty "bool") (by walk_at "as") (by walk_at "as") PyProof.Rows.boot_bool rfl ?gg; (case gg => walk_at "mem"))
  | (refine' n_bv (x := "list") (v := V.ty "list") (by walk_at "as") (by walk_at "as") PyProof.Rows.boot_list rfl ?gg; (case gg => walk_at "mem"))
  | (refine' n_bv (x := "tuple") (v := V.ty "tuple") (by walk_at "as") (by walk_at "as") PyProof.Rows.boot_tuple rfl ?gg; (case gg => walk_at "mem"))
  | (refine' n_bv (x := "str") (v := V.ty "str") (by walk_at "as") (by walk_at "as") PyProof.Rows.boot_str rfl ?gg; (case gg => walk_at "mem")))
local macro_rules | `(tactic| walk_at "peT") => `(tactic| first
  | (refine' n_ixT (by walk_at "as") ?ia ?ib (fun _ _ => rfl); (case ia => walk_at "peT"); (case ib => walk_at "pe"))
  | walk_at "pe")
local macro_rules | `(tactic| walk_at "pb") => `(tactic| first
  | (refine' pe_one ?b1; (case b1 => walk_at "pe"))
  | (refine' pe_and ?b1 ?b2; (case b1 => walk_at "pe"); (case b2 => walk_at "pb"))
  | (refine' pe_or ?b1 ?b2; (case b1 => walk_at "pe"); (case b2 => walk_at "pb")))
local macro_rules | `(tactic| walk_at "pe") => `(tactic| first
  | walk_at "pv"
  | exact pe_int | exact pe_bl | exact pe_non | exact pe_str
  | (refine' pe_op ?po ?pl ?pr; (case po => walk_at "op"); (case pl => walk_at "pe"); (case pr => walk_at "pe"))
  | (refine' pe_slice sl_list ?sx ?sl ?su; (case sx => walk_at "pe"); (case sl => walk_at "po"); (case su => walk_at "po"))
  | (refine' n_ixL (by walk_at "as") ?ia ?ib (fun _ _ => rfl); (case ia => walk_at "pe"); (case ib => walk_at "pe"))
  | (refine' pe_lst ?la; (case la => walk_at "pa"))
  | (refine' pe_tup ?la; (case la => walk_at "pa"))
  | walk_at "blt"
  | walk_at "usr"
  | (refine' n_sm (by walk_at "as") (by walk_at "as") ?mg (by walk_at "as") (by decide) ?ma; (case mg => walk_at "mem"); (case ma => walk_at "pa"))
  | (refine' n_mK (by walk_at "as") (by walk_at "as") (by walk_at "as") (by decide) ?mo (pk_cons ?mk pk_nil); (case mo => walk_at "pe"); (case mk => walk_at "pe"))
  | (refine' n_m (by walk_at "as") (by walk_at "as") (by walk_at "as") (by decide) ?mo ?ma; (case mo => walk_at "pe"); (case ma => walk_at "pa"))
  | (refine' n_m0 (by walk_at "as") (by walk_at "as") (by walk_at "as") (by decide) ?mo; (case mo => walk_at "pe"))
  | (refine' pe_bm PySem.F.plainAttrs_list PySem.F.slot_list_append PySem.F.type_list_append mt_append ?mo ?ma; (case mo => walk_at "pe"); (case ma => walk_at "pa"))
  | (refine' pe_cmpR ?co ?cl ?cr (nomark _); (case co => walk_at "cmp"); (case cl => walk_at "pe"); (case cr => walk_at "pe"))
  | (refine' pe_chain ?co ?cp ?cl ?cm ?cr; (case co => walk_at "cmp"); (case cp => walk_at "cmp"); (case cl => walk_at "pe"); (case cm => walk_at "pe"); (case cr => walk_at "pe"))
  | (refine' pe_not ?nv; (case nv => walk_at "pe"))
  | walk_at "pb"
  | walk_at "gl"
  | (refine' ClX.pe_cval ?cv; (case cv => walk_at "gl"))
  | (refine' n_fldK (by walk_at "as") ?fv; (case fv => walk_at "pe"))
  | (refine' n_coK (by walk_at "as") (by walk_at "as") (by decide) ?cf (pk_cons ?ck pk_nil); (case cf => walk_at "pe"); (case ck => walk_at "pe"))
  | (refine' n_co (by walk_at "as") (by walk_at "as") (by decide) ?cf ?ca; (case cf => walk_at "pe"); (case ca => walk_at "pa"))
  | (refine' pe_ifExp ?qc ?qa ?qb; (case qc => walk_at "pt"); (case qa => walk_at "pe"); (case qb => walk_at "pe")))
local macro_rules | `(tactic| walk_at "pw") => `(tactic| first
  | (refine' pw_and1 ?wa; (case wa => walk_at "pt")) | (refine' pw_or1 ?wa; (case wa => walk_at "pt"))
  | (refine' pw_and ?wa ?wb; (case wa => walk_at "pt"); (case wb => walk_at "pw"))
  | (refine' pw_or ?wa ?wb; (case wa => walk_at "pt"); (case wb => walk_at "pw")))
local macro_rules | `(tactic| walk_at "pt") => `(tactic| first
  | (refine' pt_cmpR op_notIn_seq ?cl ?cr (by with_unfolding_all rfl); (case cl => walk_at "pe"); (case cr => walk_at "pe"))
  | (refine' pt_cmpR op_in_seq ?cl ?cr (by with_unfolding_all rfl); (case cl => walk_at "pe"); (case cr => walk_at "pe"))
  | (refine' pt_cmpR ?co ?cl ?cr (nomark _); (case co => walk_at "cmp"); (case cl => walk_at "pe"); (case cr => walk_at "pe"))
  | (refine' pt_chain ?co ?cp ?cl ?cm ?cr; (case co => walk_at "cmp"); (case cp => walk_at "cmp"); (case cl => walk_at "pe"); (case cm => walk_at "pe"); (case cr => walk_at "pe"))
  | (refine' pt_not ?na; (case na => walk_at "pt"))
  | (refine' PW.pt ?wv; (case wv => walk_at "pw"))
  | (refine' pt_val ?vv; (case vv => walk_at "pe")))
local macro_rules | `(tactic| walk_at "pg") => `(tactic| first
  | (refine' n_g (by walk_at "as") ?vm; (case vm => walk_at "mem"))
  | (refine' pg_sub ?go ?gi set_list; (case go => walk_at "pe"); (case gi => walk_at "pe"))
  | (refine' n_tupK (by walk_at "as") ?gs; (case gs => walk_at "pgs")))
local macro_rules | `(tactic| walk_at "pgs") => `(tactic| first | exact pgs_nil | (refine' pgs_cons ?g1 ?g2; (case g1 => walk_at "pg"); (case g2 => walk_at "pgs")))
local macro_rules | `(tactic| walk_at "pi") => `(tactic| first
  | (refine' n_rng (by walk_at "as") (by walk_at "as") ?rg ?ra; (case rg => walk_at "mem"); (case ra => walk_at "pa"))
  | (refine' n_enum (by walk_at "as") (by walk_at "as") ?rg ?ra; (case rg => walk_at "mem"); (case ra => walk_at "pa"))
  | (refine' n_zip (by walk_at "as") (by walk_at "as") ?rg ?ra; (case rg => walk_at "mem"); (case ra => walk_at "pa"))
  | (refine' pi_list ?rl; (case rl => walk_at "pe")))
local macro_rules | `(tactic| walk_at "ps") => `(tactic| first
  | (refine' ps_if ?fc ?fa ?fb; (case fc => walk_at "pt"); (case fa => walk_at "pss"); (case fb => walk_at "pss"))
  | (refine' ps_ret ?re; (case re => walk_at "pe"))
  | exact ps_retN
  | (with_reducible refine' (@ps_never _ (.Raise _ _ _)))
  | (refine' ps_asg ?ae ?ag; (case ae => walk_at "pe"); (case ag => walk_at "pg"))
  | (refine' ps_fld ?fo ?fe (by rfl); (case fo => walk_at "pe"); (case fe => walk_at "pe"))
  | (refine' ps_expr ?ee; (case ee => walk_at "pe"))
  | (refine' n_for (by walk_at "as") PassesOwn.never ?fi ?fg ?fb; (case fi => walk_at "pi"); (case fg => walk_at "pg"); (case fb => walk_at "pss")))
local macro_rules | `(tactic| walk_at "pss") => `(tactic| first
  | exact pss_nil
  | (refine' pss_one ?s1; (case s1 => walk_at "ps"))
  | (refine' pss_cons ?s1 ?s2; (case s1 => walk_at "ps"); (case s2 => walk_at "pss")))
local macro_rules | `(tactic| walk_at "ne") => `(tactic| first | assumption | exact Ne.symm (by assumption))
local macro_rules | `(tactic| walk_at "hp") => `(tactic| first | assumption | exact upd_same | (refine (upd_ne (by walk_at "ne")).trans ?_; walk_at "hp"))
local macro_rules | `(tactic| walk_at "ar") => `(tactic| first | decide | omega | assumption)
local macro_rules | `(tactic| walk_at "r") => `(tactic| first
  | refine ⟨_, rfl, ?_⟩
  | refine ⟨_, _, _, _, rfl, rfl, SqL.of (by walk_at "hp"), by rfl, ?_⟩
  | refine ⟨_, _, _, _, rfl, rfl, SqL.of (by walk_at "hp"), by assumption, ?_⟩
  | refine ⟨_, _, _, _, rfl, rfl, by walk_at "hp", by rfl, ?_⟩
  | refine ⟨_, _, rfl, rfl, (show _ < (_ : Int) by walk_at "ar"), ?_⟩
  | refine ⟨_, _, rfl, rfl, .inr ⟨by walk_at "ar", by walk_at "ar"⟩, ?_⟩
  | refine ⟨_, _, rfl, rfl, .inl ⟨by walk_at "ar", by walk_at "ar"⟩, ?_⟩
  | refine ⟨_, _, rfl, rfl, ⟨by walk_at "ar", by walk_at "ar"⟩, ?_⟩
  | refine ⟨_, _, rfl, rfl, ⟨by walk_at "ar", by walk_at "ar", by walk_at "ar"⟩, ?_⟩
  | refine ⟨_, _, rfl, .inl (SqL.of (by walk_at "hp")), ?_⟩
  | refine ⟨_, _, rfl, .inr (SqT.of (by walk_at "hp")), ?_⟩
  | refine ⟨_, _, rfl, rfl, ?_⟩
  | refine .inl ⟨_, rfl, ?_⟩
  | refine ⟨rfl, ?_⟩)

def top (i : Nat) : Stmt := PySem.Challenge.pw_lowturns_k54_whole_matches_by_counts.main.body.getD i (.Pass ⟨0, 0, 0, 0⟩)
abbrev sBag : Stmt := top 62
abbrev sPull : Stmt := top 63
abbrev sOf : Stmt := top 64
abbrev sPrime : Stmt := top 68
abbrev sFigs : Stmt := top 69
abbrev sPlain : Stmt := top 70
section
variable {P : Program} {w : World} {K : PySem.W.Frag} {mg : Str → Option Value} {base : Heap}
theorem cut63 (ns : List Int) : cutV (ns.map V.int) none (some 63) = (ns.take 63).map V.int := by
  unfold cutV
  have h1 : HT.sIx (ns.map V.int).length 0 none = 0 := rfl
  have h2 : HT.sIx (ns.map V.int).length (ns.map V.int).length (some 63) = min 63 (ns.map V.int).length := by
    first | rfl | (unfold HT.sIx; simp; done) | (unfold HT.sIx; simp; omega)
  rw [h1, h2, List.drop_zero, Nat.sub_zero, ← List.map_take, List.length_map]
  by_cases c : ns.length ≤ 63
  · rw [Nat.min_eq_right c, List.take_length, List.take_of_length_le c]
  · rw [Nat.min_eq_left (by omega)]

theorem scPull : FnScope ["_law_bag_here", "_law_many", "_law_cell", "_law_digit", "_law_twice"] ["_law_bag_here", "_law_many"] (defScope sPull) := ⟨rfl, rfl, rfl, by decide +kernel, rfl, by decide +kernel, by decide +kernel⟩

theorem nmPull : nmB ["_law_bag_here", "_law_many", "_law_cell", "_law_digit", "_law_twice"] [("_law_bag_here", 0), ("_law_many", 1), ("_law_cell", 2), ("_law_digit", 3), ("_law_twice", 4)] ["len", "int", "abs"] (defScope sPull) = true := by decide +kernel
theorem ok_pull {f : Addr} {fd : FuncData} (F : Fun K "_law_pull" "_law_pull" sPull f fd) (B : Bn mg) : FnOk P w K mg base CX0 1 f fd ["_law_bag_here", "_law_many"] spPull := by
  refine F.ok scPull (fun vs H Q E h => ?_) (fun cdv A outer s H vs Q E hr h => ?_)
  · obtain ⟨b, l, n, rfl, _⟩ := h
    rfl
  · obtain ⟨b, l, n, rfl, ⟨i, r, m, t, ns, hb, hl, i0, r0, m0, m1⟩, n0, n1, k⟩ := h
    obtain ⟨b1, b2, b3, b4, b5, b6, b7, b8, b9, b10, b11⟩ := B
    refine' ex_mk ?d ?_
    case d =>
      have nm := nm_of (CX := CX0) (P := P) (w := w) (K := K) (mg := mg) (base := base) (outer := outer) (H := H) (E := E) nmPull hr
      walk_at "pss"
    have nlb : l ≠ b := ne_of hl hb (by intro q; injection q with q; cases ns <;> simp at q)
    iterate 5 walk_at "r"
    dsimp only
    refine cut (Pv := fun σ' H' => ∃ (v2 : Option V) (i' r' m' t' : Int), σ' = [some (.ref b), some (.int n), v2, none, none] ∧ H' b = some (.lst [.ref l, .int i', .int r', .int m', .int t']) ∧ 0 ≤ i' ∧ 0 ≤ r' ∧ 0 ≤ m' ∧ m' < 2147483647 ∧ (∀ a o, a ≠ b → H a = some o → H' a = some o)) (fun σ' H' hp => ?_) (fun N rest => ?_)
    · obtain ⟨v2, i', r', m', t', rfl, hb', i0', r0', m0', m1', hs⟩ := hp
      have hl' := hs l _ nlb hl
      repeat walk_at "r"
      refine ite2 (fun c => ?_) (fun c => ?_)
      · have c' : 0 < r' := of_decide_eq_true c
        repeat walk_at "r"
        exact k _ _ ⟨fun a o ne e => by rw [upd_ne ne]; exact hs a o ne e, i', r' / n, m', t', ns, upd_same, by rw [upd_ne nlb]; exact hl', i0', Int.ediv_nonneg r0' (by omega), m0', m1'⟩ (Int.emod_nonneg _ (by omega)) (Int.emod_lt_of_pos _ n0)
      · repeat walk_at "r"
        refine k _ _ ?_ (Int.emod_nonneg _ (by omega)) (Int.emod_lt_of_pos _ n0)
        refine ⟨fun a o ne e => by rw [upd_ne ne]; exact hs a o ne e, i', r', _, t', ns, upd_same, by rw [upd_ne nlb]; exact hl', i0', r0', Int.emod_nonneg _ (by decide), Int.lt_trans (Int.emod_lt_of_pos _ (by decide)) (by decide)⟩
    · repeat walk_at "r"
      refine ite2 (fun c => ?_) (fun c => ?_)
      · repeat walk_at "r"
        refine ite2 (fun c2 => ?_) (fun c2 => ?_)
        · have c2' : i < ((ns.map V.int).length : Int) := of_decide_eq_true c2
          rw [List.length_map] at c2'
          have hk : i.toNat < ns.length := by omega
          have hat : atI (ns.map V.int) i = some (.int ns[i.toNat]) := at_of (j := i.toNat) (by omega) (by rw [List.getElem?_map, List.getElem?_eq_getElem hk]; rfl)
          repeat walk_at "r"
          refine ite2 (fun c3 => ?_) (fun c3 => ?_)
          · repeat walk_at "r"
            dsimp only
            refine rest _ _ ?_
            exact ⟨_, i + 1, _, m, t + 1, rfl, upd_same, by omega, by split <;> omega, m0, m1, fun a o ne e => by simp only [upd_ne ne]; exact e⟩
          · repeat walk_at "r"
            dsimp only
            refine rest _ _ ?_
            exact ⟨_, i + 1, r, _, t + 1, rfl, upd_same, by omega, r0, Int.emod_nonneg _ (by decide), Int.lt_trans (Int.emod_lt_of_pos _ (by decide)) (by decide), fun a o ne e => by simp only [upd_ne ne]; exact e⟩
        · first | refine iteF (rest _ _ ?_) | (dsimp only; refine iteF (rest _ _ ?_)) | refine rest _ _ ?_
          exact ⟨none, i, r, m, t + 1, rfl, upd_same, i0, r0, m0, m1, fun a o ne e => by rw [upd_ne ne]; exact e⟩
      · first | refine iteF (rest _ _ ?_) | (dsimp only; refine iteF (rest _ _ ?_)) | refine rest _ _ ?_
        exact ⟨none, i, r, m, t + 1, rfl, upd_same, i0, r0, m0, m1, fun a o ne e => by rw [upd_ne ne]; exact e⟩
end

section
variable {P : Program} {w : World} {K : PySem.W.Frag} {mg : Str → Option Value} {base : Heap}
theorem scBag : FnScope ["_law_script", "_law_mixed_here", "_law_cell"] ["_law_script"] (defScope sBag) := ⟨rfl, rfl, rfl, by decide +kernel, rfl, by decide +kernel, by decide +kernel⟩
theorem nmBag : nmB ["_law_script", "_law_mixed_here", "_law_cell"] [("_law_script", 0), ("_law_mixed_here", 1), ("_law_cell", 2)] ["int", "list"] (defScope sBag) = true := by decide +kernel
theorem ok_bag {f : Addr} {fd : FuncData} (F : Fun K "_law_bag" "_law_bag" sBag f fd) (B : Bn mg) : FnOk P w K mg base CX0 1 f fd ["_law_script"] (spBag K) := by
  refine F.ok scBag (fun vs H Q E h => ?_) (fun cdv A outer s H vs Q E hr h => ?_)
  · obtain ⟨a, ns, rfl, _⟩ := h
    rfl
  · obtain ⟨a, ns, rfl, hS, k⟩ := h
    obtain ⟨b1, b2, b3, b4, b5, b6, b7, b8, b9, b10, b11⟩ := B
    refine' ex_mk ?d ?_
    case d =>
      have nm := nm_of (CX := CX0) (P := P) (w := w) (K := K) (mg := mg) (base := base) (outer := outer) (H := H) (E := E) nmBag hr
      walk_at "pss"
    refine ⟨_, rfl, _, rfl, a, _, rfl, hS, fun q hq => ⟨q, rfl, ⟨_, SqL.of upd_same⟩, ?_⟩⟩
    rw [cut63]
    refine for_list (K := K) (a := q) (xs := (ns.take 63).map V.int) (fun i σ H' => ∃ (m : Int) (v : Option V), σ = [some (.ref a), some (.int m), v] ∧ 0 ≤ m ∧ m < 2147483647 ∧ H' = upd H q (.lst ((ns.take 63).map V.int)))
      ⟨4926, none, rfl, by decide, by decide, rfl⟩ (fun i σ H' _ ⟨_, _, _, _, _, e⟩ => by rw [e]; exact SqL.of upd_same) ?_ ?_
    · rintro i y σ H' hi ⟨m, v, rfl, m0, m1, rfl⟩
      obtain ⟨z, rfl⟩ : ∃ z, y = V.int z := by
        rw [List.getElem?_map] at hi
        cases e : (ns.take 63)[i]? with
        | none => rw [e] at hi; cases hi
        | some u => rw [e] at hi; exact ⟨u, (Option.some.inj hi).symm⟩
      repeat walk_at "r"
      exact ⟨_, _, rfl, Int.emod_nonneg _ (by decide), Int.lt_trans (Int.emod_lt_of_pos _ (by decide)) (by decide), rfl⟩
    · rintro σ H' ⟨m, v, rfl, m0, m1, rfl⟩
      refine ⟨_, rfl, _, rfl, a, _, rfl, (show Same H _ from same_new hq).seq hS, fun p hp => ?_⟩
      refine ⟨p, _, rfl, .inl (SqL.of upd_same), fun l hl => ?_⟩
      rw [cut63] at *
      refine ⟨_, rfl, (by show 5 ≤ sizeLine; decide), fun b hb => ?_⟩
      have s1 : Same H (upd (upd (upd (upd H q (.lst ((ns.take 63).map V.int))) p (.lst ((ns.take 63).map V.int))) l (.lst ((ns.take 63).map V.int))) b (.lst [.ref l, .int 0, .int 0, .int m, .int 0])) :=
        same_add (same_add (same_add (same_new hq) hp) hl) hb
      have s3 : Same H (upd (upd (upd H q (.lst ((ns.take 63).map V.int))) p (.lst ((ns.take 63).map V.int))) l (.lst ((ns.take 63).map V.int))) := same_add (same_add (same_new hq) hp) hl
      refine k _ b l s1 (s3.free hb) ⟨0, 0, m, 0, ns.take 63, upd_same, ?_, by decide, by decide, m0, m1⟩
      rw [upd_ne (ne_of_none upd_same hb), upd_same]

theorem scOf : FnScope ["_law_bag_here", "_law_some"] ["_law_bag_here", "_law_some"] (defScope sOf) := ⟨rfl, rfl, rfl, by decide +kernel, rfl, by decide +kernel, by decide +kernel⟩
theorem nmOf : nmB ["_law_bag_here", "_law_some"] [("_law_bag_here", 0), ("_law_some", 1)] ["len", "_law_pull"] (defScope sOf) = true := by decide +kernel
theorem ok_of {f : Addr} {fd : FuncData} (F : Fun K "_law_of" "_law_of" sOf f fd) (B : Bn mg) (D : Df P w K mg base 1 "_law_pull" ["_law_bag_here", "_law_many"] spPull) : FnOk P w K mg base CX0 2 f fd ["_law_bag_here", "_law_some"] spOf := by
  refine F.ok scOf (fun vs H Q E h => ?_) (fun cdv A outer s H vs Q E hr h => ?_)
  · obtain ⟨b, l, a, xs, rfl, _⟩ := h
    rfl
  · obtain ⟨b, l, a, xs, rfl, hB, hA, nab, x0, x1, k⟩ := h
    obtain ⟨b1, b2, b3, b4, b5, b6, b7, b8, b9, b10, b11⟩ := B
    refine' ex_mk ?d ?_
    case d =>
      have nm := nm_of (CX := CX0) (P := P) (w := w) (K := K) (mg := mg) (base := base) (outer := outer) (H := H) (E := E) nmOf hr
      walk_at "pss"
    refine ⟨_, rfl, _, rfl, _, rfl, _, _, rfl, .inl (SqL.of hA), b, l, _, rfl, hB, by omega, by omega, fun H' d st d0 d1 => ?_⟩
    have hd : d.toNat < xs.length := by omega
    have e : xs[d.toNat]? = some xs[d.toNat] := List.getElem?_eq_getElem hd
    refine ⟨a, xs, d, _, rfl, rfl, SqL.of (st.1 a _ nab hA), at_of (by omega) e, ?_⟩
    exact k H' d.toNat _ st e

theorem scPrime : FnScope ["_law_bag_here"] ["_law_bag_here"] (defScope sPrime) := ⟨rfl, rfl, rfl, by decide +kernel, rfl, by decide +kernel, by decide +kernel⟩
theorem nmPrime : nmB ["_law_bag_here"] [("_law_bag_here", 0)] ["_law_of"] (defScope sPrime) = true := by decide +kernel
theorem ok_prime {f : Addr} {fd : FuncData} (F : Fun K "_law_prime" "_law_prime" sPrime f fd) (D : Df P w K mg base 2 "_law_of" ["_law_bag_here", "_law_some"] spOf) : FnOk P w K mg base CX0 3 f fd ["_law_bag_here"] spPrime := by
  refine F.ok scPrime (fun vs H Q E h => ?_) (fun cdv A outer s H vs Q E hr h => ?_)
  · obtain ⟨b, l, rfl, _⟩ := h
    rfl
  · obtain ⟨b, l, rfl, hB, k⟩ := h
    refine' ex_mk ?d ?_
    case d =>
      have nm := nm_of (CX := CX0) (P := P) (w := w) (K := K) (mg := mg) (base := base) (outer := outer) (H := H) (E := E) nmPrime hr
      walk_at "pss"
    refine ⟨_, rfl, (by show 7 ≤ sizeLine; decide), fun a ha => ?_⟩
    refine ⟨b, l, a, _, rfl, hB.new ha, upd_same, hB.ne ha, by decide, by decide, fun H' d x st hx => ?_⟩
    have st' : Stp b l H H' := ⟨keep_trans (keep_new ha) st.1, st.2⟩
    match d, hx with
    | 0, hx => obtain rfl := Option.some.inj hx; exact k _ _ st' (.inl rfl)
    | 1, hx => obtain rfl := Option.some.inj hx; exact k _ _ st' (.inl rfl)
    | 2, hx => obtain rfl := Option.some.inj hx; exact k _ _ st' (.inr (.inl rfl))
    | 3, hx => obtain rfl := Option.some.inj hx; exact k _ _ st' (.inl rfl)
    | 4, hx => obtain rfl := Option.some.inj hx; exact k _ _ st' (.inr (.inl rfl))
    | 5, hx => obtain rfl := Option.some.inj hx; exact k _ _ st' (.inr (.inr (.inl rfl)))
    | 6, hx => obtain rfl := Option.some.inj hx; exact k _ _ st' (.inr (.inr (.inr rfl)))
    | n + 7, hx => exact absurd hx (by simp)
end

section
variable {P : Program} {w : World} {K : PySem.W.Frag} {mg : Str → Option Value} {base : Heap}
theorem scFigs : FnScope ["_law_bag_here", "_law_p", "_law_many", "_law_k"] ["_law_bag_here", "_law_p", "_law_many"] (defScope sFigs) := ⟨rfl, rfl, rfl, by decide +kernel, rfl, by decide +kernel, by decide +kernel⟩
theorem nmFigs : nmB ["_law_bag_here", "_law_p", "_law_many", "_law_k"] [("_law_bag_here", 0), ("_law_p", 1), ("_law_many", 2)] ["tuple", "range"] (defScope sFigs) = true := by decide +kernel
theorem ok_figs {f : Addr} {fd : FuncData} (F : Fun K "_law_figures" "_law_figures" sFigs f fd) (B : Bn mg) (D : Df P w K mg base 1 "_law_pull" ["_law_bag_here", "_law_many"] spPull) : FnOk P w K mg base CX0 2 f fd ["_law_bag_here", "_law_p", "_law_many"] spFigs := by
  refine F.ok scFigs (fun vs H Q E h => ?_) (fun cdv A outer s H vs Q E hr h => ?_)
  · obtain ⟨b, l, p, n, rfl, _⟩ := h
    rfl
  · obtain ⟨b, l, p, n, rfl, hB, p0, p1, n0, n1, k⟩ := h
    obtain ⟨b1, b2, b3, b4, b5, b6, b7, b8, b9, b10, b11⟩ := B
    refine' ex_mk ?d ?_
    case d =>
      have nm := nm_of (CX := CX0) (P := P) (w := w) (K := K) (mg := mg) (base := base) (outer := outer) (H := H) (E := E) nmFigs hr
      refine' pss_one (ps_ret (n_t (x := "tuple") nm (by walk_at "as") call_tuple_of PyProof.Rows.boot_tuple ?bg (pa_cons ?lc pa_nil)))
      case bg => walk_at "mem"
      case lc =>
        refine' n_lc (own := [("_law_k", 3)]) (g := gName 3) (NS' := [("_law_bag_here", 0), ("_law_p", 1)]) (WS' := [("_law_k", 3)]) (G' := ["_law_pull"]) (N := ["_law_bag_here", "_law_p", "_law_many", "_law_k"]) (scD := defScope sFigs) nm rfl rfl (by decide +kernel) (by decide +kernel) ?li (fun X' nm2 => ?lg) (fun X' nm2 => ?le)
        case li => walk_at "pi"
        case lg => walk_at "pg"
        case le => walk_at "pe"
    refine ⟨_, rfl, n, rfl, by omega, by omega, fun Dl hD => ?_⟩
    have nDb : Dl ≠ b := hB.ne hD
    refine lc_range (lo := 0) (n := n.toNat) (fun i H' => Stp b l H H' ∧ ∃ ds : List Int, ds.length = i ∧ H' Dl = some (.lst (ds.map V.int)) ∧ ∀ d ∈ ds, 0 ≤ d ∧ d < p) ?_ ?_ ?_
    · exact ⟨hB.stp.add hD, [], rfl, upd_same, fun d hd => absurd hd (by simp)⟩
    · rintro i H' hi ⟨st, ds, hl, hd, hp⟩
      refine ⟨rfl, yes_ ?_⟩
      refine ⟨_, rfl, _, rfl, b, l, p, rfl, st.2, p0, by omega, fun H2 d st2 d0 d1 => ?_⟩
      have e2 := st2.1 _ _ nDb hd
      refine ⟨_, e2, ?_, ?_⟩
      · rw [List.length_map]
        exact small1000 (by omega)
      · refine ⟨(st.trans st2).put hB hD, ds ++ [d], by simp [hl], ?_, fun x hx => ?_⟩
        · rw [upd_same, List.map_append]; rfl
        · rcases List.mem_append.mp hx with hx | hx
          · exact hp x hx
          · rw [List.mem_singleton.mp hx]; exact ⟨d0, d1⟩
    · rintro H' ⟨st, ds, hl, hd, hp⟩
      refine ⟨Dl, _, rfl, .inl ⟨SqL.of hd, fun t ht => ?_⟩⟩
      exact k _ t ds (st.add ht) (st.free ht) upd_same (by omega) hp
end

section
variable {P : Program} {w : World} {K : PySem.W.Frag} {mg : Str → Option Value} {base : Heap}
theorem scPlain : FnScope ["_law_bag_here", "_law_p", "_law_top", "_law_many", "_law_rows", "_law_k"] ["_law_bag_here", "_law_p", "_law_top"] (defScope sPlain) := ⟨rfl, rfl, rfl, by decide +kernel, rfl, by decide +kernel, by decide +kernel⟩
theorem nmPlain : nmB ["_law_bag_here", "_law_p", "_law_top", "_law_many", "_law_rows", "_law_k"] [("_law_bag_here", 0), ("_law_p", 1), ("_law_top", 2), ("_law_many", 3), ("_law_rows", 4), ("_law_k", 5)] ["_law_pull", "_law_of", "_law_figures", "range"] (defScope sPlain) = true := by decide +kernel
theorem ok_plain {f : Addr} {fd : FuncData} (F : Fun K "_law_plain" "_law_plain" sPlain f fd) (B : Bn mg) (D : Df P w K mg base 1 "_law_pull" ["_law_bag_here", "_law_many"] spPull) (D2 : Df P w K mg base 2 "_law_of" ["_law_bag_here", "_law_some"] spOf)
    (D3 : Df P w K mg base 2 "_law_figures" ["_law_bag_here", "_law_p", "_law_many"] spFigs) : FnOk P w K mg base CX0 3 f fd ["_law_bag_here", "_law_p", "_law_top"] spPlain := by
  refine F.ok scPlain (fun vs H Q E h => ?_) (fun cdv A outer s H vs Q E hr h => ?_)
  · obtain ⟨b, l, p, n, rfl, _⟩ := h
    rfl
  · obtain ⟨b, l, p, n, rfl, hB, hP, n0, n1, k⟩ := h
    have hp2 := hP.two
    obtain ⟨b1, b2, b3, b4, b5, b6, b7, b8, b9, b10, b11⟩ := B
    refine' ex_mk ?d ?_
    case d =>
      have nm := nm_of (CX := CX0) (P := P) (w := w) (K := K) (mg := mg) (base := base) (outer := outer) (H := H) (E := E) nmPlain hr
      walk_at "pss"
    refine ⟨_, rfl, _, rfl, b, l, n, rfl, hB, n0, by omega, fun H1 d st1 d0 d1 => ?_⟩
    refine ⟨_, _, rfl, rfl, Nat.zero_le _, fun r hr1 => ?_⟩
    have hr0 : H r = none := st1.free hr1
    have em : ((1 + d).toNat : Int) = 1 + d := by omega
    refine ⟨_, rfl, _, rfl, by omega, by omega, for_range (lo := 0) (n := (1 + d).toNat) (fun i σ H' => ∃ (v : Option V) (xs : List V) (M : List (Int × List Int)), σ = [some (.ref b), some (.int p), some (.int n), some (.int (1 + d)), some (.ref r), v] ∧ Stp b l H H' ∧ H' r = some (.lst xs) ∧ StsAt H' xs M ∧ OkM p (1 + d) M ∧ M.length = i)
      ⟨none, [], [], rfl, st1.add hr1, upd_same, ⟨rfl, fun i x s h => by simp at h⟩, ⟨fun s h => by simp at h, fun s h => by simp at h, fun s h => by simp at h⟩, rfl⟩ ?_ ?_⟩
    · rintro i σ H' hi ⟨v, xs, M, rfl, st, hr', hM, hO, hl⟩
      have nrb : r ≠ b := hB.ne hr0
      refine ⟨_, rfl, .inl ⟨rfl, _, SqL.of hr'⟩, ?_⟩
      refine ⟨_, rfl, _, rfl, _, _, rfl, rfl, _, rfl, _, rfl, b, l, p, rfl, st.2, by omega, by omega, fun H2 e st2 e0 e1 => ?_⟩
      refine ⟨by show 5 ≤ sizeLine; decide, fun a ha => ?_⟩
      refine ⟨b, l, a, _, rfl, st2.2.new ha, upd_same, st2.2.ne ha, by show 0 < 5; decide, by show 5 ≤ 1000; decide, fun H3 j x st3 hx => ?_⟩
      obtain ⟨tn, rfl, t0, t1⟩ : ∃ tn : Int, x = .int tn ∧ 0 ≤ tn ∧ tn < p := by
        match j, hx with
        | 0, hx => obtain rfl := Option.some.inj hx; exact ⟨_, rfl, by omega, by omega⟩
        | 1, hx => obtain rfl := Option.some.inj hx; exact ⟨_, rfl, by omega, by omega⟩
        | 2, hx => obtain rfl := Option.some.inj hx; exact ⟨_, rfl, by omega, by omega⟩
        | 3, hx => obtain rfl := Option.some.inj hx; exact ⟨_, rfl, by omega, by omega⟩
        | 4, hx => obtain rfl := Option.some.inj hx; exact ⟨_, rfl, e0, e1⟩
        | n + 5, hx => exact absurd hx (by simp)
      have s23 : Stp b l H2 H3 := ⟨keep_trans (keep_new ha) st3.1, st3.2⟩
      refine ⟨_, rfl, _, rfl, _, rfl, b, l, 1 + d, p, rfl, st3.2, by omega, by omega, by omega, by omega, fun H4 t ds st4 ht4 ht hdl hds => ?_⟩
      refine ⟨by show 2 ≤ sizeLine; decide, fun q hq => ?_⟩
      have sx : Stp b l H' H4 := (st2.trans s23).trans st4
      have hr4 : H4 r = some (.lst xs) := sx.1 r _ nrb hr'
      have hr5 : upd H4 q (.tup [.int tn, .ref t]) r = some (.lst xs) := by rw [upd_ne (ne_of_none hr4 hq)]; exact hr4
      refine ⟨r, _, _, rfl, rfl, hr5, ?_, ?_⟩
      · rw [hM.1, hl]
        exact small1000 (by omega)
      · have hM4 : StsAt (upd H4 q (.tup [.int tn, .ref t])) xs M := (hM.keep st.2 sx.1).same (same_new hq)
        have hS4 : StAt (upd H4 q (.tup [.int tn, .ref t])) (.ref q) (tn, ds) := ⟨q, t, rfl, upd_same, by rw [upd_ne (ne_of_none ht hq)]; exact ht⟩
        refine ⟨_, xs ++ [.ref q], M ++ [(tn, ds)], rfl, ((st.trans sx).add hq).put hB hr0, upd_same, (hM4.snoc hS4).lst hr5, ⟨fun s h => ?_, fun s h => ?_, fun s h => ?_⟩, by simp [hl]⟩
        · rcases List.mem_append.mp h with h | h
          · exact hO.turn s h
          · rw [List.mem_singleton.mp h]; exact ⟨t0, t1⟩
        · rcases List.mem_append.mp h with h | h
          · exact hO.many s h
          · rw [List.mem_singleton.mp h]; exact hdl
        · rcases List.mem_append.mp h with h | h
          · exact hO.goal s h
          · rw [List.mem_singleton.mp h]; exact hds
    · rintro σ H' ⟨v, xs, M, rfl, st, hr', hM, hO, hl⟩
      have nrb : r ≠ b := hB.ne hr0
      refine ⟨_, rfl, _, rfl, _, rfl, _, rfl, b, l, 1 + d, rfl, st.2, by omega, by omega, fun H2 e st2 e0 e1 => ?_⟩
      refine ⟨by show 3 ≤ sizeLine; decide, fun t ht => ?_⟩
      have hr2 := st2.1 r _ nrb hr'
      have eL : (M.length : Int) = 1 + d := by omega
      refine k _ t r xs M e ((st.trans st2).add ht) ((st.trans st2).free ht) hr0 upd_same (by rw [upd_ne (ne_of_none hr2 ht)]; exact hr2) ((hM.keep st.2 st2.1).same (same_new ht)) (by rw [eL]; exact hO) (by omega) (by omega) e0 (by omega)
end

abbrev sNum : Stmt := top 23
abbrev sBel : Stmt := top 24
abbrev sChP : Stmt := top 25
/-- the kind of a value -/
def Kd (K : PySem.W.Frag) (H : Hp) (v : V) (T : String) : Prop := TyX K H v (.type T) ∧ (T = "NoneType" ∨ T = "bool" ∨ T = "int" ∨ T = "str" ∨ T = "list" ∨ T = "tuple")
theorem kd_int {K : PySem.W.Frag} {H : Hp} (i : Int) : Kd K H (.int i) "int" := ⟨.base (.int i), .inr (.inr (.inl rfl))⟩
def spNum (K : PySem.W.Frag) : Sp := fun vs H Q _ => ∃ v T, vs = [v] ∧ Kd K H v T ∧ Q (.bl (decide (T = "int"))) H
def belowV (v : V) (n : Int) : Bool := match v with
  | .int i => decide (0 ≤ i) && decide (i < n)
  | _ => false
def spBel (K : PySem.W.Frag) : Sp := fun vs H Q _ => ∃ v T n, vs = [v, .int n] ∧ Kd K H v T ∧ Q (.bl (belowV v n)) H
theorem Kd.ofInt {K : PySem.W.Frag} {H : Hp} {v : V} (h : Kd K H v "int") : ∃ i, v = .int i := by
  obtain ⟨h, _⟩ := h
  generalize e : Value.type "int" = t at h
  cases h with
  | base b => cases b with
    | int i => exact ⟨i, rfl⟩
    | non => injection e with e; exact absurd e (by decide)
    | bl x => injection e with e; exact absurd e (by decide)
    | str x => injection e with e; exact absurd e (by decide)
    | flt x => injection e with e; exact absurd e (by decide)
    | lst h => injection e with e; exact absurd e (by decide)
    | frz h => injection e with e; exact absurd e (by decide)
    | tup h => injection e with e; exact absurd e (by decide)
    | dK h => injection e with e; exact absurd e (by decide)
    | dT h => injection e with e; exact absurd e (by decide)
    | ins h => cases e
  | byt b => injection e with e; exact absurd e (by decide)
  | set h => injection e with e; exact absurd e (by decide)
  | kList h c => injection e with e; exact absurd e (by decide)
  | kTuple h c => injection e with e; exact absurd e (by decide)
  | kDict h c => injection e with e; exact absurd e (by decide)
  | fTuple h => injection e with e; exact absurd e (by decide)
  | fDict h => injection e with e; exact absurd e (by decide)
theorem Kd.notInt {K : PySem.W.Frag} {H : Hp} {v : V} {T : String} (h : Kd K H v T) (n : T ≠ "int") : ∀ i, v ≠ .int i := by
  rintro i rfl
  obtain ⟨h, _⟩ := h
  generalize e : Value.type T = t at h
  cases h with
  | base b => cases b with
    | int i => injection e with e; exact n e
section
variable {P : Program} {w : World} {K : PySem.W.Frag} {mg : Str → Option Value} {base : Heap}
theorem scNum : FnScope ["value"] ["value"] (defScope sNum) := ⟨rfl, rfl, rfl, by decide +kernel, rfl, by decide +kernel, by decide +kernel⟩
theorem nmNum : nmB ["value"] [("value", 0)] ["isinstance", "int", "bool"] (defScope sNum) = true := by decide +kernel
theorem kit_int {T : String} (h : T = "NoneType" ∨ T = "bool" ∨ T = "int" ∨ T = "str" ∨ T = "list" ∨ T = "tuple") : kitB T "int" = some (decide (T = "int" ∨ T = "bool")) := by
  rcases h with h | h | h | h | h | h <;> subst h <;> decide +kernel
theorem kit_bool {T : String} (h : T = "NoneType" ∨ T = "bool" ∨ T = "int" ∨ T = "str" ∨ T = "list" ∨ T = "tuple") : kitB T "bool" = some (decide (T = "bool")) := by
  rcases h with h | h | h | h | h | h <;> subst h <;> decide +kernel
theorem ok_num {f : Addr} {fd : FuncData} (F : Fun K "is_number" "is_number" sNum f fd) (B : Bn mg) : FnOk P w K mg base CX0 1 f fd ["value"] (spNum K) := by
  refine F.ok scNum (fun vs H Q E h => ?_) (fun cdv A outer s H vs Q E hr h => ?_)
  · obtain ⟨v, T, rfl, _⟩ := h
    rfl
  · obtain ⟨v, T, rfl, hk, k⟩ := h
    obtain ⟨b1, b2, b3, b4, b5, b6, b7, b8, b9, b10, b11⟩ := B
    refine' ex_mk ?d ?_
    case d =>
      have nm := nm_of (CX := CX0) (P := P) (w := w) (K := K) (mg := mg) (base := base) (outer := outer) (H := H) (E := E) nmNum hr
      walk_at "pss"
    refine ⟨_, rfl, _, _, _, _, _, rfl, .ty "int", hk.1, kit_ty (kit_int hk.2), _, rfl, ?_⟩
    by_cases c : T = "int" ∨ T = "bool"
    · rw [decide_eq_true c]
      refine iteT ?_
      refine ⟨_, rfl, _, _, _, _, _, rfl, .ty "bool", hk.1, kit_ty (kit_bool hk.2), _, rfl, ?_⟩
      have e : (!decide (T = "bool")) = decide (T = "int") := by
        rcases c with c | c <;> subst c <;> decide
      rw [e]
      exact k
    · rw [decide_eq_false c]
      refine iteF ?_
      have e : decide (T = "int") = false := decide_eq_false fun z => c (.inl z)
      rw [e] at k
      exact k
theorem scBel : FnScope ["value", "bound"] ["value", "bound"] (defScope sBel) := ⟨rfl, rfl, rfl, by decide +kernel, rfl, by decide +kernel, by decide +kernel⟩
theorem nmBel : nmB ["value", "bound"] [("value", 0), ("bound", 1)] ["is_number"] (defScope sBel) = true := by decide +kernel
theorem ok_bel {f : Addr} {fd : FuncData} (F : Fun K "is_below" "is_below" sBel f fd) (D : Df P w K mg base 1 "is_number" ["value"] (spNum K)) : FnOk P w K mg base CX0 2 f fd ["value", "bound"] (spBel K) := by
  refine F.ok scBel (fun vs H Q E h => ?_) (fun cdv A outer s H vs Q E hr h => ?_)
  · obtain ⟨v, T, n, rfl, _⟩ := h
    rfl
  · obtain ⟨v, T, n, rfl, hk, k⟩ := h
    refine' ex_mk ?d ?_
    case d =>
      have nm := nm_of (CX := CX0) (P := P) (w := w) (K := K) (mg := mg) (base := base) (outer := outer) (H := H) (E := E) nmBel hr
      walk_at "pss"
    refine ⟨_, rfl, v, T, rfl, hk, _, rfl, ?_⟩
    by_cases c : T = "int"
    · subst c
      obtain ⟨i, rfl⟩ := hk.ofInt
      rw [decide_eq_true rfl]
      refine iteT ?_
      refine ⟨_, rfl, _, _, rfl, rfl, _, rfl, ?_⟩
      have k' : Q (.bl (decide (0 ≤ i) && decide (i < n))) H := k
      by_cases c1 : (0 : Int) ≤ i
      · rw [decide_eq_true c1, Bool.true_and] at k'
        rw [decide_eq_true c1]
        refine iteT ?_
        exact ⟨_, rfl, _, _, rfl, rfl, k'⟩
      · rw [decide_eq_false c1, Bool.false_and] at k'
        rw [decide_eq_false c1]
        exact iteF k'
    · rw [decide_eq_false c]
      refine iteF ?_
      have e : belowV v n = false := by
        cases v with
        | int i => exact absurd rfl (hk.notInt c i)
        | _ => rfl
      rw [e] at k
      exact k
end

abbrev sCp : Stmt := top 2
/-- copied: the same data, its lists and tuples made anew -/
def spCp (K : PySem.W.Frag) (n : Nat) : Sp := fun vs H Q _ => ∃ (v : V) (d : PyData) (c : Nat), vs = [v] ∧ Dp K H v d ∧ GoodD n d c ∧ ∀ H' v', Same H H' → Dp K (newOf H H') v' d → Q v' H'
theorem butD_sub {D : Addr} {H : Hp} : Same (butD D H) H := fun a o z => by
  unfold butD at z
  split at z
  · cases z
  · exact z
section
variable {P : Program} {w : World} {K : PySem.W.Frag} {mg : Str → Option Value} {base : Heap}
theorem scCp : FnScope ["value", "item"] ["value"] (defScope sCp) := ⟨rfl, rfl, rfl, by decide +kernel, rfl, by decide +kernel, by decide +kernel⟩
theorem nmCp : nmB ["value", "item"] [("value", 0)] ["isinstance", "list", "tuple"] (defScope sCp) = true := by decide +kernel
theorem kit_lt {T : String} (h : T = "NoneType" ∨ T = "bool" ∨ T = "int" ∨ T = "str") : kitB T "list" = some false ∧ kitB T "tuple" = some false := by
  rcases h with h | h | h | h <;> subst h <;> exact ⟨by decide +kernel, by decide +kernel⟩
theorem ok_cp {n : Nat} {f : Addr} {fd : FuncData} (F : Fun K "copied" "copied" sCp f fd) (B : Bn mg) (D : ∀ m, n = m + 1 → Df P w K mg base n "copied" ["value"] (spCp K m)) : FnOk P w K mg base CX0 (n + 1) f fd ["value"] (spCp K n) := by
  refine F.ok scCp (fun vs H Q E h => ?_) (fun cdv A outer s H vs Q E hr h => ?_)
  · obtain ⟨v, d, c, rfl, _⟩ := h
    rfl
  · obtain ⟨v, d, c, rfl, hd, hg, k⟩ := h
    obtain ⟨b1, b2, b3, b4, b5, b6, b7, b8, b9, b10, b11⟩ := B
    by_cases hf : flatV v = true
    · refine' ex_mk ?d ?_
      case d =>
        have nm := nm_of (CX := CX0) (P := P) (w := w) (K := K) (mg := mg) (base := base) (outer := outer) (H := H) (E := E) nmCp hr
        refine' pss_cons (ps_if ?c1 (pss_one ps_never) pss_nil) (pss_cons (ps_if ?c2 (pss_one ps_never) pss_nil) (pss_one ?ret))
        case c1 => walk_at "pt"
        case c2 => walk_at "pt"
        case ret => walk_at "ps"
      obtain ⟨T, ty, hT⟩ := ty_flat (K := K) (H := H) hf
      obtain ⟨k1, k2⟩ := kit_lt hT
      refine ⟨_, rfl, _, _, _, _, _, rfl, .ty "list", ty, kit_ty k1, _, rfl, ?_⟩
      refine iteF ?_
      refine ⟨_, rfl, _, _, _, _, _, rfl, .ty "tuple", ty, kit_ty k2, _, rfl, ?_⟩
      refine iteF ?_
      exact ⟨_, rfl, k H v (fun _ _ e => e) (goodD_flat (n := n) (c := c) hd hf _)⟩
    · have step : ∀ {xs : List V} {ds : List PyData} {cs : List Nat} {m : Nat} {H2 : Hp} {Dl j : Nat} {x : V} {Qk : V → Hp → Prop}, xs.length = ds.length → cs.length = ds.length → DpAll K H xs ds → (∀ (i : Nat) d k, ds[i]? = some d → cs[i]? = some k → GoodD m d k) → H Dl = none → Same H H2 → (∃ ys, H2 Dl = some (.lst ys)) → xs[j]? = some x →
          (∀ y H3, Same H2 H3 → (∀ d, ds[j]? = some d → Dp K (butD Dl (newOf H H3)) y d) → Qk y H3) → spCp K m [x] H2 Qk (fun _ _ _ => False) := by
        intro xs ds cs m H2 Dl j x Qk e1 e2 ha hall hD s2 hDl hx kk
        obtain ⟨_, f2⟩ := dpAll_at ha
        have hj := (List.getElem?_eq_some_iff.mp hx).1
        have hdj : ds[j]? = some ds[j] := List.getElem?_eq_getElem (by omega)
        have hcj : cs[j]? = some cs[j] := List.getElem?_eq_getElem (by omega)
        refine ⟨x, _, _, rfl, dp_same s2 _ _ (f2 j x _ hx hdj), hall j _ _ hdj hcj, fun H3 v' s3 hv => ?_⟩
        refine kk v' H3 s3 fun d hd => ?_
        rw [hdj] at hd
        obtain rfl := Option.some.inj hd
        refine dp_same (fun a o e => ?_) _ _ hv
        have n2 := newOf_old e
        have nD : a ≠ Dl := fun z => by
          obtain ⟨ys, hy⟩ := hDl
          rw [z, hy] at n2
          cases n2
        have nH : H a = none := by
          cases q : H a with
          | none => rfl
          | some u => rw [s2 _ _ q] at n2; cases n2
        show butD Dl (newOf H H3) a = some o
        unfold butD
        rw [if_neg nD]
        exact newOf_at nH (newOf_same _ _ e)
      cases hd with
      | non => exact absurd rfl hf
      | bl b => exact absurd rfl hf
      | int i => exact absurd rfl hf
      | str x => exact absurd rfl hf
      | @lst a xs ds hs ha =>
        cases n with
        | zero => exact hg.elim
        | succ m =>
          obtain ⟨hlen, cs, el, hcs, hall⟩ := hg
          obtain ⟨e2, f2⟩ := dpAll_at ha
          have D1 := D m rfl
          refine' ex_mk ?d ?_
          case d =>
            have nm := nm_of (CX := CX0) (P := P) (w := w) (K := K) (mg := mg) (base := base) (outer := outer) (H := H) (E := E) nmCp hr
            refine' pss_cons (ps_if ?c1 (pss_one (ps_ret ?lc)) pss_nil) (pss_cons (ps_if ?c2 (pss_one ps_never) pss_nil) (pss_one ?ret))
            case c1 => walk_at "pt"
            case c2 => walk_at "pt"
            case ret => walk_at "ps"
            case lc =>
              refine' n_lc (own := [("item", 1)]) (g := gName 1) (NS' := [("item", 1)]) (WS' := [("item", 1)]) (G' := ["copied"]) (N := ["value", "item"]) (scD := defScope sCp) nm rfl rfl (by decide +kernel) (by decide +kernel) (pi_list ?li) (fun X' nm2 => ?lg) (fun X' nm2 => ?le)
              case li => walk_at "pe"
              case lg => walk_at "pg"
              case le =>
                refine' n_d nm2 D1 (Nat.le_refl _) ?ug ?ua
                case ug => walk_at "mem"
                case ua => walk_at "pa"
          refine ⟨_, rfl, _, _, _, _, _, rfl, .ty "list", ty_l hs, kit_ty (by decide +kernel : kitB "list" "list" = some true), _, rfl, ?_⟩
          refine iteT ?_
          refine ⟨_, rfl, a, rfl, ⟨_, hs⟩, fun Dl hD => ?_⟩
          have J := sj_L (K := K) (a := a) (xs := xs) (S := Same H) fun H5 s5 => sqL_same s5 hs
          refine lcB (K := K) (xs := xs) (R := fun i y H' => ∀ d, ds[i]? = some d → Dp K (butD Dl (newOf H H')) y d) hD (small1000 (by omega))
            (fun H2 j s2 hj => J.go H2 j _ s2 (List.getElem?_eq_getElem hj)) (fun H2 s2 => J.stop H2 s2) (fun i y H2 H3 e h d hd => dp_same (fun a o z => ?_) _ _ (h d hd)) (fun i y H2 zs h d hd => ?_) ?_ ?_ gm_nm
          · unfold butD newOf at z ⊢
            split at z
            · cases z
            · rename_i q
              rw [if_neg q]
              split at z
              · cases z
              · rename_i q2
                rw [if_neg q2]
                exact e _ _ z
          · have e0 : butD Dl (newOf H (upd H2 Dl (.lst zs))) = butD Dl (newOf H H2) := by
              funext b
              unfold butD newOf
              by_cases hb : b = Dl
              · rw [if_pos hb, if_pos hb]
              · rw [if_neg hb, if_neg hb, upd_ne hb]
            rw [e0]
            exact h d hd
          · intro j x H2 v H3 Qk hx s2 hDl hy kk
            obtain ⟨rfl, hv⟩ := J.yl H2 j v H3 s2 hy
            exact ⟨rfl, _, rfl, step e2 el ha hall hD s2 hDl hv kk⟩
          · intro ys H2 s2 hDl hl hRs
            refine k H2 (.ref Dl) s2 (.lst (SqL.of (newOf_at hD hDl)) (dpAll_of (by omega) fun i y d h1 h2 => ?_))
            exact dp_same butD_sub _ _ (hRs i y h1 d h2)
      | @tup a xs ds hs ha =>
        cases n with
        | zero => exact hg.elim
        | succ m =>
          obtain ⟨hlen, cs, el, hcs, hall⟩ := hg
          obtain ⟨e2, f2⟩ := dpAll_at ha
          have D1 := D m rfl
          refine' ex_mk ?d ?_
          case d =>
            have nm := nm_of (CX := CX0) (P := P) (w := w) (K := K) (mg := mg) (base := base) (outer := outer) (H := H) (E := E) nmCp hr
            refine' pss_cons (ps_if ?c1 (pss_one ps_never) pss_nil) (pss_cons (ps_if ?c2 (pss_one (ps_ret (n_t (x := "tuple") nm (by walk_at "as") call_tuple_of PyProof.Rows.boot_tuple ?bg (pa_cons ?lc pa_nil)))) pss_nil) (pss_one ?ret))
            case c1 => walk_at "pt"
            case c2 => walk_at "pt"
            case bg => walk_at "mem"
            case ret => walk_at "ps"
            case lc =>
              refine' n_lc (own := [("item", 1)]) (g := gName 1) (NS' := [("item", 1)]) (WS' := [("item", 1)]) (G' := ["copied"]) (N := ["value", "item"]) (scD := defScope sCp) nm rfl rfl (by decide +kernel) (by decide +kernel) (pi_tup ?li) (fun X' nm2 => ?lg) (fun X' nm2 => ?le)
              case li => walk_at "pe"
              case lg => walk_at "pg"
              case le =>
                refine' n_d nm2 D1 (Nat.le_refl _) ?ug ?ua
                case ug => walk_at "mem"
                case ua => walk_at "pa"
          refine ⟨_, rfl, _, _, _, _, _, rfl, .ty "list", ty_t hs, kit_ty (by decide +kernel : kitB "tuple" "list" = some false), _, rfl, ?_⟩
          refine iteF ?_
          refine ⟨_, rfl, _, _, _, _, _, rfl, .ty "tuple", ty_t hs, kit_ty (by decide +kernel : kitB "tuple" "tuple" = some true), _, rfl, ?_⟩
          refine iteT ?_
          refine ⟨_, rfl, a, rfl, ⟨_, hs⟩, fun Dl hD => ?_⟩
          have J := sj_T (K := K) (a := a) (xs := xs) (S := Same H) fun H5 s5 => sqT_same s5 hs
          refine lcB (K := K) (xs := xs) (R := fun i y H' => ∀ d, ds[i]? = some d → Dp K (butD Dl (newOf H H')) y d) hD (small1000 (by omega))
            (fun H2 j s2 hj => J.go H2 j _ s2 (List.getElem?_eq_getElem hj)) (fun H2 s2 => J.stop H2 s2) (fun i y H2 H3 e h d hd => dp_same (fun a o z => ?_) _ _ (h d hd)) (fun i y H2 zs h d hd => ?_) ?_ ?_ gm_nm
          · unfold butD newOf at z ⊢
            split at z
            · cases z
            · rename_i q
              rw [if_neg q]
              split at z
              · cases z
              · rename_i q2
                rw [if_neg q2]
                exact e _ _ z
          · have e0 : butD Dl (newOf H (upd H2 Dl (.lst zs))) = butD Dl (newOf H H2) := by
              funext b
              unfold butD newOf
              by_cases hb : b = Dl
              · rw [if_pos hb, if_pos hb]
              · rw [if_neg hb, if_neg hb, upd_ne hb]
            rw [e0]
            exact h d hd
          · intro j x H2 v H3 Qk hx s2 hDl hy kk
            obtain ⟨rfl, hv⟩ := J.yl H2 j v H3 s2 hy
            exact ⟨rfl, _, rfl, step e2 el ha hall hD s2 hDl hv kk⟩
          · intro ys H2 s2 hDl hl hRs
            refine ⟨Dl, _, rfl, .inl ⟨SqL.of hDl, fun q hq => ?_⟩⟩
            have nq : H q = none := s2.free hq
            refine k _ (.ref q) (Same.trans s2 (same_new hq)) (.tup (SqT.of (newOf_at nq upd_same)) (dpAll_of (by omega) fun i y d h1 h2 => ?_))
            refine dp_same (fun a o z => ?_) _ _ (hRs i y h1 d h2)
            unfold butD newOf at z
            unfold newOf
            split at z
            · cases z
            · split at z
              · cases z
              · rename_i q2
                rw [if_neg q2, upd_ne (ne_of_none z hq)]
                exact z
theorem copied_all {f : Addr} {fd : FuncData} (F : Fun K "copied" "copied" sCp f fd) (B : Bn mg) (hm : mg "copied" = some (.ref f)) (hk : PySem.W.keepIn K (.ref f) = true) (hb : Binds K fd ["value"] []) : ∀ n, FnOk P w K mg base CX0 (n + 1) f fd ["value"] (spCp K n)
  | 0 => ok_cp F B fun m h => by cases h
  | n + 1 => ok_cp F B fun m h => by
    obtain rfl : n = m := Nat.succ.inj h
    exact ⟨⟨f, fd, hm, hk, hb, copied_all F B hm hk hb n⟩⟩
end

theorem but_to {a : Addr} {H H3 : Hp} (k : ∀ b o, b ≠ a → H b = some o → H3 b = some o) {b : Addr} {o : HO} (z : butD a H b = some o) : H3 b = some o := by
  unfold butD at z
  split at z
  · cases z
  · rename_i q
    exact k b o q z
/-- one argument, told as data -/
def vs1 (K : PySem.W.Frag) : List V → Hp → List PyData → Prop := fun ws H ds => ∃ (v : V) (d : PyData) (c : Nat), ws = [v] ∧ ds = [d] ∧ Dp K H v d ∧ GoodD 8 d c ∧ c ≤ 1000000
abbrev sE_InvalidCount : Stmt := inClass (top 9) 0
section
variable {P : Program} {w : World} {K : PySem.W.Frag} {mg : Str → Option Value} {base : Heap}
theorem scE_InvalidCount : NdefX.NScope ["self", "given", "__class__"] ["self", "given"] ["__class__"] (defScope sE_InvalidCount) := NdefX.nscope_by (by decide +kernel)
theorem nmE_InvalidCount : nmB ["self", "given", "__class__"] [("self", 0), ("given", 1)] ["copied"] (defScope sE_InvalidCount) = true := by decide +kernel
theorem okE_InvalidCount {f C cc cda : Addr} {fd : FuncData} (FC : FunC P K mg "__init__" "InvalidCount.__init__" sE_InvalidCount f C cc cda fd "ValueError.__init__") (T : OexC K C) (N : ErrN K C "InvalidCount") (n1 : NoAttr K C "given") (n2 : NoAttr K C "code") (n3 : NoAttr K C "details") (D : Df P w K mg base 9 "copied" ["value"] (spCp K 8)) :
    FnOk P w K mg base CX0 10 f fd ["self", "given"] (spErr K C "InvalidCount" (vs1 K)) := by
  refine funC_ok (k := 9) FC T scE_InvalidCount rfl (fun vs H Q E h => ?_) rfl fun A outer s H vs Q E hr h => ?_
  · obtain ⟨a, ws, ds, rfl, _, ⟨v, d, c, rfl, _⟩, _⟩ := h
    rfl
  · obtain ⟨a, ws, ds, rfl, ha, ⟨v, d, c, rfl, rfl, hd, hg, hc⟩, k⟩ := h
    have nm := nm_ncx (CX := CX0) (P := P) (w := w) (K := K) (mg := mg) (base := base) (N := ["self", "given", "__class__"]) (F := nfOf "__init__" "InvalidCount.__init__" sE_InvalidCount cc cda) (f := f) (A := A) (outer := outer) (s := s) (H := H) (E := E) nmE_InvalidCount scE_InvalidCount.nocell hr
    refine' ⟨a, _, _, _, rfl, ha, ⟨rfl, rfl, rfl, rfl, rfl⟩, ?pa, ?ps, ?go⟩
    case pa =>
      refine' pa_cons (pe_joined (PJ.cons pe_str (PJ.cons (pe_fmtD hr ?gv) PJ.nil))) pa_nil
      case gv => walk_at "pe"
    case ps =>
      refine' pss_cons (ps_ost ?e1 (n_d nm D (Nat.le_refl _) ?g1 (pa_cons ?a1 pa_nil))) (pss_cons (ps_ost ?e2 (pe_errN ?e3)) (pss_one (ps_ost ?e4 (pe_tup (pa_cons (n_d nm D (Nat.le_refl _) ?g2 (pa_cons ?a2 pa_nil)) pa_nil)))))
      case e1 => walk_at "pe"
      case g1 => walk_at "mem"
      case a1 => walk_at "pe"
      case e2 => walk_at "pe"
      case e3 => walk_at "pe"
      case e4 => walk_at "pe"
      case g2 => walk_at "mem"
      case a2 => walk_at "pe"
    case go =>
      intro Pc hPc
      have hd0 : Dp K H v d := dp_same butD_sub _ _ hd
      have sz : (2000000 : Nat) ≤ sizeLine := by rw [sizeLine_eq]; decide
      refine ⟨_, rfl, Nat.le_trans (by decide +kernel : _ ≤ 100) (Nat.le_trans (by decide) sz), _, rfl, 8, c, d, hd0, hg, by decide, hc, fun m hm => ⟨_, rfl, ?_, ⟨by show 1 ≤ 1000; decide, ha, ?_⟩⟩⟩
      · rw [strLen_append]
        exact Nat.le_trans (Nat.add_le_add (by decide +kernel : _ ≤ 100) (Nat.le_trans hm hc)) (Nat.le_trans (by decide) sz)
      refine hPc _ ?_
      refine ⟨_, rfl, v, d, c, rfl, hd0, hg, fun H1 v1 s1 hv1 => ?_⟩
      refine ⟨_, rfl, a, C, rfl, T, n1, .inl ⟨s1 _ _ ha, fun dx hdx ndx => ?_⟩⟩
      generalize hH2 : upd (upd H1 dx (exd dx [("given", v1)])) a (exo a C (some dx)) = H2
      have a2 : H2 a = some (exo a C (some dx)) := by rw [← hH2, upd_same]
      have d2 : H2 dx = some (exd dx [("given", v1)]) := by rw [← hH2, upd_ne ndx, upd_same]
      have k2 : ∀ b o, b ≠ a → H b = some o → H2 b = some o := fun b o n z => by
        rw [← hH2, upd_ne n, upd_ne (ne_of_none (s1 _ _ z) hdx)]
        exact s1 _ _ z
      refine ⟨_, rfl, a, C, dx, "InvalidCount", _, rfl, a2, d2, N, ?_⟩
      refine ⟨_, rfl, a, C, rfl, T, n2, .inr ⟨dx, _, a2, d2, by show 1 ≤ 900; decide, ?_⟩⟩
      generalize hH3 : upd H2 dx (exd dx [("code", .str "InvalidCount"), ("given", v1)]) = H3
      have a3 : H3 a = some (exo a C (some dx)) := by rw [← hH3, upd_ne (Ne.symm ndx)]; exact a2
      have d3 : H3 dx = some (exd dx [("code", .str "InvalidCount"), ("given", v1)]) := by rw [← hH3, upd_same]
      have nx : ∀ b o, H b = some o → b ≠ dx := fun b o z => ne_of_none (s1 _ _ z) hdx
      have k3 : ∀ b o, b ≠ a → H b = some o → H3 b = some o := fun b o n z => by rw [← hH3, upd_ne (nx b o z)]; exact k2 b o n z
      have hd3 : Dp K H3 v d := dp_same (fun b o z => but_to k3 z) _ _ hd
      refine ⟨_, rfl, v, d, c, rfl, hd3, hg, fun H4 v2 s4 hv2 => ?_⟩
      refine ⟨by show 1 ≤ sizeLine; decide, fun p hp => ?_⟩
      have np : ∀ {b : Addr} {o : HO}, H3 b = some o → b ≠ p := fun {b o} z => ne_of_none (s4 _ _ z) hp
      have a5 : (upd H4 p (.tup [v2])) a = some (exo a C (some dx)) := by rw [upd_ne (np a3)]; exact s4 _ _ a3
      have d5 : (upd H4 p (.tup [v2])) dx = some (exd dx [("code", .str "InvalidCount"), ("given", v1)]) := by rw [upd_ne (np d3)]; exact s4 _ _ d3
      refine ⟨_, rfl, a, C, rfl, T, n3, .inr ⟨dx, _, a5, d5, by show 2 ≤ 900; decide, ?_⟩⟩
      have pdx : p ≠ dx := Ne.symm (np d3)
      have pa : p ≠ a := Ne.symm (np a3)
      refine k _ dx p _ (fun b o n z => ?_) (s1.free hdx) ?_ upd_same rfl rfl (.tup (xs := [v2]) (SqT.of ?_) (.cons ?_ .nil))
      · rw [upd_ne (nx b o z), upd_ne (np (k3 b o n z))]
        exact s4 _ _ (k3 b o n z)
      · rw [upd_ne (Ne.symm ndx)]
        exact a5
      · have hp0 : H p = none := by
          cases q : H p with
          | none => rfl
          | some o => rw [s4 _ _ (k3 p o pa q)] at hp; cases hp
        unfold butD
        rw [if_neg pdx, if_neg pa]
        refine newOf_at hp0 ?_
        rw [upd_ne pdx, upd_same]
      · refine dp_same (fun b o z => ?_) _ _ hv2
        have z3 := newOf_old z
        have z4 : H4 b = some o := newOf_same _ _ z
        have nb : b ≠ dx := fun e => by rw [e, d3] at z3; cases z3
        have na : b ≠ a := fun e => by rw [e, a3] at z3; cases z3
        have hb0 : H b = none := by
          cases q : H b with
          | none => rfl
          | some u => rw [k3 b u na q] at z3; cases z3
        unfold butD
        rw [if_neg nb, if_neg na]
        refine newOf_at hb0 ?_
        rw [upd_ne nb, upd_ne (ne_of_none z4 hp)]
        exact z4
end
abbrev sE_TooMany : Stmt := inClass (top 15) 0
section
variable {P : Program} {w : World} {K : PySem.W.Frag} {mg : Str → Option Value} {base : Heap}
theorem scE_TooMany : NdefX.NScope ["self", "most", "__class__"] ["self", "most"] ["__class__"] (defScope sE_TooMany) := NdefX.nscope_by (by decide +kernel)
theorem nmE_TooMany : nmB ["self", "most", "__class__"] [("self", 0), ("most", 1)] ["copied"] (defScope sE_TooMany) = true := by decide +kernel
theorem okE_TooMany {f C cc cda : Addr} {fd : FuncData} (FC : FunC P K mg "__init__" "TooMany.__init__" sE_TooMany f C cc cda fd "ValueError.__init__") (T : OexC K C) (N : ErrN K C "TooMany") (n1 : NoAttr K C "most") (n2 : NoAttr K C "code") (n3 : NoAttr K C "details") (D : Df P w K mg base 9 "copied" ["value"] (spCp K 8)) :
    FnOk P w K mg base CX0 10 f fd ["self", "most"] (spErr K C "TooMany" (vs1 K)) := by
  refine funC_ok (k := 9) FC T scE_TooMany rfl (fun vs H Q E h => ?_) rfl fun A outer s H vs Q E hr h => ?_
  · obtain ⟨a, ws, ds, rfl, _, ⟨v, d, c, rfl, _⟩, _⟩ := h
    rfl
  · obtain ⟨a, ws, ds, rfl, ha, ⟨v, d, c, rfl, rfl, hd, hg, hc⟩, k⟩ := h
    have nm := nm_ncx (CX := CX0) (P := P) (w := w) (K := K) (mg := mg) (base := base) (N := ["self", "most", "__class__"]) (F := nfOf "__init__" "TooMany.__init__" sE_TooMany cc cda) (f := f) (A := A) (outer := outer) (s := s) (H := H) (E := E) nmE_TooMany scE_TooMany.nocell hr
    refine' ⟨a, _, _, _, rfl, ha, ⟨rfl, rfl, rfl, rfl, rfl⟩, ?pa, ?ps, ?go⟩
    case pa =>
      refine' pa_cons (pe_joined (PJ.cons pe_str (PJ.cons (pe_fmtD hr ?gv) PJ.nil))) pa_nil
      case gv => walk_at "pe"
    case ps =>
      refine' pss_cons (ps_ost ?e1 (n_d nm D (Nat.le_refl _) ?g1 (pa_cons ?a1 pa_nil))) (pss_cons (ps_ost ?e2 (pe_errN ?e3)) (pss_one (ps_ost ?e4 (pe_tup (pa_cons (n_d nm D (Nat.le_refl _) ?g2 (pa_cons ?a2 pa_nil)) pa_nil)))))
      case e1 => walk_at "pe"
      case g1 => walk_at "mem"
      case a1 => walk_at "pe"
      case e2 => walk_at "pe"
      case e3 => walk_at "pe"
      case e4 => walk_at "pe"
      case g2 => walk_at "mem"
      case a2 => walk_at "pe"
    case go =>
      intro Pc hPc
      have hd0 : Dp K H v d := dp_same butD_sub _ _ hd
      have sz : (2000000 : Nat) ≤ sizeLine := by rw [sizeLine_eq]; decide
      refine ⟨_, rfl, Nat.le_trans (by decide +kernel : _ ≤ 100) (Nat.le_trans (by decide) sz), _, rfl, 8, c, d, hd0, hg, by decide, hc, fun m hm => ⟨_, rfl, ?_, ⟨by show 1 ≤ 1000; decide, ha, ?_⟩⟩⟩
      · rw [strLen_append]
        exact Nat.le_trans (Nat.add_le_add (by decide +kernel : _ ≤ 100) (Nat.le_trans hm hc)) (Nat.le_trans (by decide) sz)
      refine hPc _ ?_
      refine ⟨_, rfl, v, d, c, rfl, hd0, hg, fun H1 v1 s1 hv1 => ?_⟩
      refine ⟨_, rfl, a, C, rfl, T, n1, .inl ⟨s1 _ _ ha, fun dx hdx ndx => ?_⟩⟩
      generalize hH2 : upd (upd H1 dx (exd dx [("most", v1)])) a (exo a C (some dx)) = H2
      have a2 : H2 a = some (exo a C (some dx)) := by rw [← hH2, upd_same]
      have d2 : H2 dx = some (exd dx [("most", v1)]) := by rw [← hH2, upd_ne ndx, upd_same]
      have k2 : ∀ b o, b ≠ a → H b = some o → H2 b = some o := fun b o n z => by
        rw [← hH2, upd_ne n, upd_ne (ne_of_none (s1 _ _ z) hdx)]
        exact s1 _ _ z
      refine ⟨_, rfl, a, C, dx, "TooMany", _, rfl, a2, d2, N, ?_⟩
      refine ⟨_, rfl, a, C, rfl, T, n2, .inr ⟨dx, _, a2, d2, by show 1 ≤ 900; decide, ?_⟩⟩
      generalize hH3 : upd H2 dx (exd dx [("code", .str "TooMany"), ("most", v1)]) = H3
      have a3 : H3 a = some (exo a C (some dx)) := by rw [← hH3, upd_ne (Ne.symm ndx)]; exact a2
      have d3 : H3 dx = some (exd dx [("code", .str "TooMany"), ("most", v1)]) := by rw [← hH3, upd_same]
      have nx : ∀ b o, H b = some o → b ≠ dx := fun b o z => ne_of_none (s1 _ _ z) hdx
      have k3 : ∀ b o, b ≠ a → H b = some o → H3 b = some o := fun b o n z => by rw [← hH3, upd_ne (nx b o z)]; exact k2 b o n z
      have hd3 : Dp K H3 v d := dp_same (fun b o z => but_to k3 z) _ _ hd
      refine ⟨_, rfl, v, d, c, rfl, hd3, hg, fun H4 v2 s4 hv2 => ?_⟩
      refine ⟨by show 1 ≤ sizeLine; decide, fun p hp => ?_⟩
      have np : ∀ {b : Addr} {o : HO}, H3 b = some o → b ≠ p := fun {b o} z => ne_of_none (s4 _ _ z) hp
      have a5 : (upd H4 p (.tup [v2])) a = some (exo a C (some dx)) := by rw [upd_ne (np a3)]; exact s4 _ _ a3
      have d5 : (upd H4 p (.tup [v2])) dx = some (exd dx [("code", .str "TooMany"), ("most", v1)]) := by rw [upd_ne (np d3)]; exact s4 _ _ d3
      refine ⟨_, rfl, a, C, rfl, T, n3, .inr ⟨dx, _, a5, d5, by show 2 ≤ 900; decide, ?_⟩⟩
      have pdx : p ≠ dx := Ne.symm (np d3)
      have pa : p ≠ a := Ne.symm (np a3)
      refine k _ dx p _ (fun b o n z => ?_) (s1.free hdx) ?_ upd_same rfl rfl (.tup (xs := [v2]) (SqT.of ?_) (.cons ?_ .nil))
      · rw [upd_ne (nx b o z), upd_ne (np (k3 b o n z))]
        exact s4 _ _ (k3 b o n z)
      · rw [upd_ne (Ne.symm ndx)]
        exact a5
      · have hp0 : H p = none := by
          cases q : H p with
          | none => rfl
          | some o => rw [s4 _ _ (k3 p o pa q)] at hp; cases hp
        unfold butD
        rw [if_neg pdx, if_neg pa]
        refine newOf_at hp0 ?_
        rw [upd_ne pdx, upd_same]
      · refine dp_same (fun b o z => ?_) _ _ hv2
        have z3 := newOf_old z
        have z4 : H4 b = some o := newOf_same _ _ z
        have nb : b ≠ dx := fun e => by rw [e, d3] at z3; cases z3
        have na : b ≠ a := fun e => by rw [e, a3] at z3; cases z3
        have hb0 : H b = none := by
          cases q : H b with
          | none => rfl
          | some u => rw [k3 b u na q] at z3; cases z3
        unfold butD
        rw [if_neg nb, if_neg na]
        refine newOf_at hb0 ?_
        rw [upd_ne nb, upd_ne (ne_of_none z4 hp)]
        exact z4
end
abbrev sE_NoRelabelling : Stmt := inClass (top 17) 0
section
variable {P : Program} {w : World} {K : PySem.W.Frag} {mg : Str → Option Value} {base : Heap}
theorem scE_NoRelabelling : NdefX.NScope ["self", "at", "__class__"] ["self", "at"] ["__class__"] (defScope sE_NoRelabelling) := NdefX.nscope_by (by decide +kernel)
theorem nmE_NoRelabelling : nmB ["self", "at", "__class__"] [("self", 0), ("at", 1)] ["copied"] (defScope sE_NoRelabelling) = true := by decide +kernel
theorem okE_NoRelabelling {f C cc cda : Addr} {fd : FuncData} (FC : FunC P K mg "__init__" "NoRelabelling.__init__" sE_NoRelabelling f C cc cda fd "ValueError.__init__") (T : OexC K C) (N : ErrN K C "NoRelabelling") (n1 : NoAttr K C "at") (n2 : NoAttr K C "code") (n3 : NoAttr K C "details") (D : Df P w K mg base 9 "copied" ["value"] (spCp K 8)) :
    FnOk P w K mg base CX0 10 f fd ["self", "at"] (spErr K C "NoRelabelling" (vs1 K)) := by
  refine funC_ok (k := 9) FC T scE_NoRelabelling rfl (fun vs H Q E h => ?_) rfl fun A outer s H vs Q E hr h => ?_
  · obtain ⟨a, ws, ds, rfl, _, ⟨v, d, c, rfl, _⟩, _⟩ := h
    rfl
  · obtain ⟨a, ws, ds, rfl, ha, ⟨v, d, c, rfl, rfl, hd, hg, hc⟩, k⟩ := h
    have nm := nm_ncx (CX := CX0) (P := P) (w := w) (K := K) (mg := mg) (base := base) (N := ["self", "at", "__class__"]) (F := nfOf "__init__" "NoRelabelling.__init__" sE_NoRelabelling cc cda) (f := f) (A := A) (outer := outer) (s := s) (H := H) (E := E) nmE_NoRelabelling scE_NoRelabelling.nocell hr
    refine' ⟨a, _, _, _, rfl, ha, ⟨rfl, rfl, rfl, rfl, rfl⟩, ?pa, ?ps, ?go⟩
    case pa =>
      refine' pa_cons (pe_joined (PJ.cons pe_str (PJ.cons (pe_fmtD hr ?gv) (PJ.cons pe_str PJ.nil)))) pa_nil
      case gv => walk_at "pe"
    case ps =>
      refine' pss_cons (ps_ost ?e1 (n_d nm D (Nat.le_refl _) ?g1 (pa_cons ?a1 pa_nil))) (pss_cons (ps_ost ?e2 (pe_errN ?e3)) (pss_one (ps_ost ?e4 (pe_tup (pa_cons (n_d nm D (Nat.le_refl _) ?g2 (pa_cons ?a2 pa_nil)) pa_nil)))))
      case e1 => walk_at "pe"
      case g1 => walk_at "mem"
      case a1 => walk_at "pe"
      case e2 => walk_at "pe"
      case e3 => walk_at "pe"
      case e4 => walk_at "pe"
      case g2 => walk_at "mem"
      case a2 => walk_at "pe"
    case go =>
      intro Pc hPc
      have hd0 : Dp K H v d := dp_same butD_sub _ _ hd
      have sz : (2000000 : Nat) ≤ sizeLine := by rw [sizeLine_eq]; decide
      refine ⟨_, rfl, Nat.le_trans (by decide +kernel : _ ≤ 100) (Nat.le_trans (by decide) sz), _, rfl, 8, c, d, hd0, hg, by decide, hc, fun m hm => ⟨_, rfl, ?_, ⟨_, rfl, ?_, ⟨by show 1 ≤ 1000; decide, ha, ?_⟩⟩⟩⟩
      · rw [strLen_append]
        exact Nat.le_trans (Nat.add_le_add (by decide +kernel : _ ≤ 100) (Nat.le_trans hm hc)) (Nat.le_trans (by decide) sz)
      · rw [strLen_append, strLen_append]
        exact Nat.le_trans (Nat.add_le_add (Nat.add_le_add (by decide +kernel : _ ≤ 100) (Nat.le_trans hm hc)) (by decide +kernel : _ ≤ 100)) (Nat.le_trans (by decide) sz)
      refine hPc _ ?_
      refine ⟨_, rfl, v, d, c, rfl, hd0, hg, fun H1 v1 s1 hv1 => ?_⟩
      refine ⟨_, rfl, a, C, rfl, T, n1, .inl ⟨s1 _ _ ha, fun dx hdx ndx => ?_⟩⟩
      generalize hH2 : upd (upd H1 dx (exd dx [("at", v1)])) a (exo a C (some dx)) = H2
      have a2 : H2 a = some (exo a C (some dx)) := by rw [← hH2, upd_same]
      have d2 : H2 dx = some (exd dx [("at", v1)]) := by rw [← hH2, upd_ne ndx, upd_same]
      have k2 : ∀ b o, b ≠ a → H b = some o → H2 b = some o := fun b o n z => by
        rw [← hH2, upd_ne n, upd_ne (ne_of_none (s1 _ _ z) hdx)]
        exact s1 _ _ z
      refine ⟨_, rfl, a, C, dx, "NoRelabelling", _, rfl, a2, d2, N, ?_⟩
      refine ⟨_, rfl, a, C, rfl, T, n2, .inr ⟨dx, _, a2, d2, by show 1 ≤ 900; decide, ?_⟩⟩
      generalize hH3 : upd H2 dx (exd dx [("code", .str "NoRelabelling"), ("at", v1)]) = H3
      have a3 : H3 a = some (exo a C (some dx)) := by rw [← hH3, upd_ne (Ne.symm ndx)]; exact a2
      have d3 : H3 dx = some (exd dx [("code", .str "NoRelabelling"), ("at", v1)]) := by rw [← hH3, upd_same]
      have nx : ∀ b o, H b = some o → b ≠ dx := fun b o z => ne_of_none (s1 _ _ z) hdx
      have k3 : ∀ b o, b ≠ a → H b = some o → H3 b = some o := fun b o n z => by rw [← hH3, upd_ne (nx b o z)]; exact k2 b o n z
      have hd3 : Dp K H3 v d := dp_same (fun b o z => but_to k3 z) _ _ hd
      refine ⟨_, rfl, v, d, c, rfl, hd3, hg, fun H4 v2 s4 hv2 => ?_⟩
      refine ⟨by show 1 ≤ sizeLine; decide, fun p hp => ?_⟩
      have np : ∀ {b : Addr} {o : HO}, H3 b = some o → b ≠ p := fun {b o} z => ne_of_none (s4 _ _ z) hp
      have a5 : (upd H4 p (.tup [v2])) a = some (exo a C (some dx)) := by rw [upd_ne (np a3)]; exact s4 _ _ a3
      have d5 : (upd H4 p (.tup [v2])) dx = some (exd dx [("code", .str "NoRelabelling"), ("at", v1)]) := by rw [upd_ne (np d3)]; exact s4 _ _ d3
      refine ⟨_, rfl, a, C, rfl, T, n3, .inr ⟨dx, _, a5, d5, by show 2 ≤ 900; decide, ?_⟩⟩
      have pdx : p ≠ dx := Ne.symm (np d3)
      have pa : p ≠ a := Ne.symm (np a3)
      refine k _ dx p _ (fun b o n z => ?_) (s1.free hdx) ?_ upd_same rfl rfl (.tup (xs := [v2]) (SqT.of ?_) (.cons ?_ .nil))
      · rw [upd_ne (nx b o z), upd_ne (np (k3 b o n z))]
        exact s4 _ _ (k3 b o n z)
      · rw [upd_ne (Ne.symm ndx)]
        exact a5
      · have hp0 : H p = none := by
          cases q : H p with
          | none => rfl
          | some o => rw [s4 _ _ (k3 p o pa q)] at hp; cases hp
        unfold butD
        rw [if_neg pdx, if_neg pa]
        refine newOf_at hp0 ?_
        rw [upd_ne pdx, upd_same]
      · refine dp_same (fun b o z => ?_) _ _ hv2
        have z3 := newOf_old z
        have z4 : H4 b = some o := newOf_same _ _ z
        have nb : b ≠ dx := fun e => by rw [e, d3] at z3; cases z3
        have na : b ≠ a := fun e => by rw [e, a3] at z3; cases z3
        have hb0 : H b = none := by
          cases q : H b with
          | none => rfl
          | some u => rw [k3 b u na q] at z3; cases z3
        unfold butD
        rw [if_neg nb, if_neg na]
        refine newOf_at hb0 ?_
        rw [upd_ne nb, upd_ne (ne_of_none z4 hp)]
        exact z4
end
/-- no argument -/
def vs0 : List V → Hp → List PyData → Prop := fun ws _ ds => ws = [] ∧ ds = []
abbrev sE_PrimesDiffer : Stmt := inClass (top 14) 0
section
variable {P : Program} {w : World} {K : PySem.W.Frag} {mg : Str → Option Value} {base : Heap}
theorem scE_PrimesDiffer : NdefX.NScope ["self", "__class__"] ["self"] ["__class__"] (defScope sE_PrimesDiffer) := NdefX.nscope_by (by decide +kernel)
theorem nmE_PrimesDiffer : nmB ["self", "__class__"] [("self", 0)] [] (defScope sE_PrimesDiffer) = true := by decide +kernel
theorem okE_PrimesDiffer {f C cc cda : Addr} {fd : FuncData} (FC : FunC P K mg "__init__" "PrimesDiffer.__init__" sE_PrimesDiffer f C cc cda fd "ValueError.__init__") (T : OexC K C) (N : ErrN K C "PrimesDiffer") (n2 : NoAttr K C "code") (n3 : NoAttr K C "details") :
    FnOk P w K mg base CX0 10 f fd ["self"] (spErr K C "PrimesDiffer" vs0) := by
  refine funC_ok (k := 9) FC T scE_PrimesDiffer rfl (fun vs H Q E h => ?_) rfl fun A outer s H vs Q E hr h => ?_
  · obtain ⟨a, ws, ds, rfl, _, ⟨rfl, _⟩, _⟩ := h
    rfl
  · obtain ⟨a, ws, ds, rfl, ha, ⟨rfl, rfl⟩, k⟩ := h
    have nm := nm_ncx (CX := CX0) (P := P) (w := w) (K := K) (mg := mg) (base := base) (N := ["self", "__class__"]) (F := nfOf "__init__" "PrimesDiffer.__init__" sE_PrimesDiffer cc cda) (f := f) (A := A) (outer := outer) (s := s) (H := H) (E := E) nmE_PrimesDiffer scE_PrimesDiffer.nocell hr
    refine' ⟨a, _, _, _, rfl, ha, ⟨rfl, rfl, rfl, rfl, rfl⟩, pa_cons pe_str pa_nil, ?ps, ?go⟩
    case ps =>
      refine' pss_cons (ps_ost ?e2 (pe_errN0 ?e3)) (pss_one (ps_ost ?e4 (pe_tup pa_nil)))
      case e2 => walk_at "pe"
      case e3 => walk_at "pe"
      case e4 => walk_at "pe"
    case go =>
      intro Pc hPc
      refine ⟨by show 1 ≤ 1000; decide, ha, hPc _ ?_⟩
      refine ⟨_, rfl, a, C, "PrimesDiffer", rfl, ha, N, ?_⟩
      refine ⟨_, rfl, a, C, rfl, T, n2, .inl ⟨ha, fun dx hdx ndx => ?_⟩⟩
      generalize hH3 : upd (upd H dx (exd dx [("code", .str "PrimesDiffer")])) a (exo a C (some dx)) = H3
      have a3 : H3 a = some (exo a C (some dx)) := by rw [← hH3, upd_same]
      have d3 : H3 dx = some (exd dx [("code", .str "PrimesDiffer")]) := by rw [← hH3, upd_ne ndx, upd_same]
      have k3 : ∀ b o, b ≠ a → H b = some o → H3 b = some o := fun b o n z => by
        rw [← hH3, upd_ne n, upd_ne (ne_of_none z hdx)]
        exact z
      refine ⟨Nat.zero_le _, fun p hp => ?_⟩
      have np : ∀ {b : Addr} {o : HO}, H3 b = some o → b ≠ p := fun {b o} z => ne_of_none z hp
      have a5 : (upd H3 p (.tup [])) a = some (exo a C (some dx)) := by rw [upd_ne (np a3)]; exact a3
      have d5 : (upd H3 p (.tup [])) dx = some (exd dx [("code", .str "PrimesDiffer")]) := by rw [upd_ne (np d3)]; exact d3
      refine ⟨_, rfl, a, C, rfl, T, n3, .inr ⟨dx, _, a5, d5, by show 1 ≤ 900; decide, ?_⟩⟩
      have pdx : p ≠ dx := Ne.symm (np d3)
      have pa : p ≠ a := Ne.symm (np a3)
      refine k _ dx p _ (fun b o n z => ?_) hdx ?_ upd_same rfl rfl (.tup (xs := []) (SqT.of ?_) .nil)
      · rw [upd_ne (ne_of_none z hdx), upd_ne (np (k3 b o n z))]
        exact k3 b o n z
      · rw [upd_ne (Ne.symm ndx)]
        exact a5
      · have hp0 : H p = none := by
          cases q : H p with
          | none => rfl
          | some o => rw [k3 p o pa q] at hp; cases hp
        unfold butD
        rw [if_neg pdx, if_neg pa]
        refine newOf_at hp0 ?_
        rw [upd_ne pdx, upd_same]
end
abbrev sE_NotSingle : Stmt := inClass (top 16) 0
section
variable {P : Program} {w : World} {K : PySem.W.Frag} {mg : Str → Option Value} {base : Heap}
theorem scE_NotSingle : NdefX.NScope ["self", "__class__"] ["self"] ["__class__"] (defScope sE_NotSingle) := NdefX.nscope_by (by decide +kernel)
theorem nmE_NotSingle : nmB ["self", "__class__"] [("self", 0)] [] (defScope sE_NotSingle) = true := by decide +kernel
theorem okE_NotSingle {f C cc cda : Addr} {fd : FuncData} (FC : FunC P K mg "__init__" "NotSingle.__init__" sE_NotSingle f C cc cda fd "ValueError.__init__") (T : OexC K C) (N : ErrN K C "NotSingle") (n2 : NoAttr K C "code") (n3 : NoAttr K C "details") :
    FnOk P w K mg base CX0 10 f fd ["self"] (spErr K C "NotSingle" vs0) := by
  refine funC_ok (k := 9) FC T scE_NotSingle rfl (fun vs H Q E h => ?_) rfl fun A outer s H vs Q E hr h => ?_
  · obtain ⟨a, ws, ds, rfl, _, ⟨rfl, _⟩, _⟩ := h
    rfl
  · obtain ⟨a, ws, ds, rfl, ha, ⟨rfl, rfl⟩, k⟩ := h
    have nm := nm_ncx (CX := CX0) (P := P) (w := w) (K := K) (mg := mg) (base := base) (N := ["self", "__class__"]) (F := nfOf "__init__" "NotSingle.__init__" sE_NotSingle cc cda) (f := f) (A := A) (outer := outer) (s := s) (H := H) (E := E) nmE_NotSingle scE_NotSingle.nocell hr
    refine' ⟨a, _, _, _, rfl, ha, ⟨rfl, rfl, rfl, rfl, rfl⟩, pa_cons pe_str pa_nil, ?ps, ?go⟩
    case ps =>
      refine' pss_cons (ps_ost ?e2 (pe_errN0 ?e3)) (pss_one (ps_ost ?e4 (pe_tup pa_nil)))
      case e2 => walk_at "pe"
      case e3 => walk_at "pe"
      case e4 => walk_at "pe"
    case go =>
      intro Pc hPc
      refine ⟨by show 1 ≤ 1000; decide, ha, hPc _ ?_⟩
      refine ⟨_, rfl, a, C, "NotSingle", rfl, ha, N, ?_⟩
      refine ⟨_, rfl, a, C, rfl, T, n2, .inl ⟨ha, fun dx hdx ndx => ?_⟩⟩
      generalize hH3 : upd (upd H dx (exd dx [("code", .str "NotSingle")])) a (exo a C (some dx)) = H3
      have a3 : H3 a = some (exo a C (some dx)) := by rw [← hH3, upd_same]
      have d3 : H3 dx = some (exd dx [("code", .str "NotSingle")]) := by rw [← hH3, upd_ne ndx, upd_same]
      have k3 : ∀ b o, b ≠ a → H b = some o → H3 b = some o := fun b o n z => by
        rw [← hH3, upd_ne n, upd_ne (ne_of_none z hdx)]
        exact z
      refine ⟨Nat.zero_le _, fun p hp => ?_⟩
      have np : ∀ {b : Addr} {o : HO}, H3 b = some o → b ≠ p := fun {b o} z => ne_of_none z hp
      have a5 : (upd H3 p (.tup [])) a = some (exo a C (some dx)) := by rw [upd_ne (np a3)]; exact a3
      have d5 : (upd H3 p (.tup [])) dx = some (exd dx [("code", .str "NotSingle")]) := by rw [upd_ne (np d3)]; exact d3
      refine ⟨_, rfl, a, C, rfl, T, n3, .inr ⟨dx, _, a5, d5, by show 1 ≤ 900; decide, ?_⟩⟩
      have pdx : p ≠ dx := Ne.symm (np d3)
      have pa : p ≠ a := Ne.symm (np a3)
      refine k _ dx p _ (fun b o n z => ?_) hdx ?_ upd_same rfl rfl (.tup (xs := []) (SqT.of ?_) .nil)
      · rw [upd_ne (ne_of_none z hdx), upd_ne (np (k3 b o n z))]
        exact k3 b o n z
      · rw [upd_ne (Ne.symm ndx)]
        exact a5
      · have hp0 : H p = none := by
          cases q : H p with
          | none => rfl
          | some o => rw [k3 p o pa q] at hp; cases hp
        unfold butD
        rw [if_neg pdx, if_neg pa]
        refine newOf_at hp0 ?_
        rw [upd_ne pdx, upd_same]
end

/-- the constants of the module -/
structure Gv (K : PySem.W.Frag) (mg : Str → Option Value) (aP : Addr) (tD : Tok) : Prop where
  primes : mg "PRIMES" = some (.ref aP)
  four : ∀ H, SqT K H aP [.int 2, .int 3, .int 5, .int 7]
  dials : mg "MOST_DIALS" = some (.int 200 tD)
def spChP : Sp := fun vs H Q _ => ∃ p, vs = [.int p] ∧ IsP p ∧ Q .non H
section
variable {P : Program} {w : World} {K : PySem.W.Frag} {mg : Str → Option Value} {base : Heap} {aP : Addr} {tD : Tok}
theorem scChP : FnScope ["prime"] ["prime"] (defScope sChP) := ⟨rfl, rfl, rfl, by decide +kernel, rfl, by decide +kernel, by decide +kernel⟩
theorem nmChP : nmB ["prime"] [("prime", 0)] ["is_number", "PRIMES"] (defScope sChP) = true := by decide +kernel
theorem ok_chp {f : Addr} {fd : FuncData} (F : Fun K "check_prime" "check_prime" sChP f fd) (g : Gv K mg aP tD) (D : Df P w K mg base 1 "is_number" ["value"] (spNum K)) : FnOk P w K mg base CX0 2 f fd ["prime"] spChP := by
  refine F.ok scChP (fun vs H Q E h => ?_) (fun cdv A outer s H vs Q E hr h => ?_)
  · obtain ⟨p, rfl, _⟩ := h
    rfl
  · obtain ⟨p, rfl, hP, k⟩ := h
    have g1 := g.primes
    refine' ex_mk ?d ?_
    case d =>
      have nm := nm_of (CX := CX0) (P := P) (w := w) (K := K) (mg := mg) (base := base) (outer := outer) (H := H) (E := E) nmChP hr
      walk_at "pss"
    refine ⟨_, rfl, _, _, rfl, kd_int p, _, rfl, ?_⟩
    refine iteF ?_
    refine ⟨_, rfl, aP, _, rfl, .inr (g.four H), rfl, rfl, _, rfl, ?_⟩
    have e : (!inV (V.int p) [.int 2, .int 3, .int 5, .int 7]) = false := by
      rcases hP with h | h | h | h <;> subst h <;> decide
    show if (!inV (V.int p) [.int 2, .int 3, .int 5, .int 7]) = true then _ else _
    rw [e]
    exact iteF k
theorem belowV_in {p d : Int} (h : 0 ≤ d ∧ d < p) : belowV (.int d) p = true := by
  show (decide (0 ≤ d) && decide (d < p)) = true
  rw [decide_eq_true h.1, decide_eq_true h.2]; rfl
theorem all_rep (n : Nat) : (List.replicate n true).all id = true := by
  induction n with
  | zero => rfl
  | succ n ih => rw [List.replicate_succ, List.all_cons, ih]; rfl
end

/-- data that an error may tell -/
def Tell (K : PySem.W.Frag) (H : Hp) (v : V) (d : PyData) : Prop := ∃ c, Dp K H v d ∧ GoodD 8 d c ∧ c ≤ 1000000
theorem Tell.same {K : PySem.W.Frag} {H H' : Hp} {v : V} {d : PyData} (h : Tell K H v d) (e : Same H H') : Tell K H' v d := by
  obtain ⟨c, h1, h2, h3⟩ := h
  exact ⟨c, dp_same e _ _ h1, h2, h3⟩
theorem Tell.vs {K : PySem.W.Frag} {H : Hp} {v : V} {d : PyData} (h : Tell K H v d) : vs1 K [v] H [d] := by
  obtain ⟨c, h1, h2, h3⟩ := h
  exact ⟨v, d, c, rfl, rfl, h1, h2, h3⟩
theorem kd_dp {K : PySem.W.Frag} {H : Hp} {v : V} {d : PyData} (h : Dp K H v d) : ∃ T, Kd K H v T := by
  cases h with
  | non => exact ⟨_, .base .non, .inl rfl⟩
  | bl b => exact ⟨_, .base (.bl b), .inr (.inl rfl)⟩
  | int i => exact ⟨_, kd_int i⟩
  | str x => exact ⟨_, .base (.str x), .inr (.inr (.inr (.inl rfl)))⟩
  | lst hs ha => exact ⟨_, ty_l hs, .inr (.inr (.inr (.inr (.inl rfl))))⟩
  | tup hs ha => exact ⟨_, ty_t hs, .inr (.inr (.inr (.inr (.inr rfl))))⟩
abbrev sIsSt : Stmt := top 52
abbrev sFirst : Stmt := top 53
def spIsSt : Sp := fun vs H Q _ => ∃ (p n : Int) (v : V) (s : Int × List Int), vs = [.int p, v, .int n] ∧ StAt H v s ∧ 0 ≤ s.1 ∧ s.1 < p ∧ (s.2.length : Int) = p ∧ p ≤ 7 ∧ (∀ g ∈ s.2, 0 ≤ g ∧ g < n) ∧ ∀ H', Same H H' → Q (.bl true) H'
def spFirst : Sp := fun vs H Q _ => ∃ (p : Int) (a : Addr) (xs : List V) (M : List (Int × List Int)), vs = [.int p, .ref a] ∧ p ≤ 7 ∧ H a = some (.lst xs) ∧ StsAt H xs M ∧ OkM p (M.length : Int) M ∧ 0 < M.length ∧ M.length ≤ 240 ∧ ∀ H', Same H H' → Q .non H'
/-- the class as a value, its constant -/
structure Cv (K : PySem.W.Frag) (mg : Str → Option Value) (C : Addr) (mc u : Value) : Prop where
  mgC : mg "Turner" = some (.ref C)
  rd : ClX.CRead K C mc
  most : ClX.CVal K C mc "MOST" (.int 240) u
section
variable {P : Program} {w : World} {K : PySem.W.Frag} {mg : Str → Option Value} {base : Heap} {aP : Addr} {tD : Tok} {C : Addr} {mc u : Value}
theorem scIsSt : FnScope ["prime", "value", "many", "turn", "targets", "target"] ["prime", "value", "many"] (defScope sIsSt) := ⟨rfl, rfl, rfl, by decide +kernel, rfl, by decide +kernel, by decide +kernel⟩
theorem nmIsSt : nmB ["prime", "value", "many", "turn", "targets", "target"] [("prime", 0), ("value", 1), ("many", 2), ("turn", 3), ("targets", 4)] ["isinstance", "tuple", "len", "is_below", "all"] (defScope sIsSt) = true := by decide +kernel
theorem ok_isst {f : Addr} {fd : FuncData} (F : Fun K "_is_state" "_is_state" sIsSt f fd) (B : Bn mg) (D2 : Df P w K mg base 2 "is_below" ["value", "bound"] (spBel K)) : FnOk P w K mg base CX0 3 f fd ["prime", "value", "many"] spIsSt := by
  refine F.ok scIsSt (fun vs H Q E h => ?_) (fun cdv A outer s H vs Q E hr h => ?_)
  · obtain ⟨p, n, v, z, rfl, _⟩ := h
    rfl
  · obtain ⟨p, n, v, z, rfl, ⟨a, g, rfl, h1, h2⟩, t0, t1, hl, p7, hg, k⟩ := h
    obtain ⟨b1, b2, b3, b4, b5, b6, b7, b8, b9, b10, b11⟩ := B
    refine' ex_mk ?d ?_
    case d =>
      have nm := nm_of (CX := CX0) (P := P) (w := w) (K := K) (mg := mg) (base := base) (outer := outer) (H := H) (E := E) nmIsSt hr
      refine' pss_cons ?s1 (pss_cons ?s2 (pss_cons ?s3 (pss_one (ps_ret (n_b (x := "all") nm (by walk_at "as") (cr_all nm.calm) PyProof.Rows.boot_all ?bg (pa_cons ?lc pa_nil))))))
      case s1 => walk_at "ps"
      case s2 => walk_at "ps"
      case s3 => walk_at "ps"
      case bg => walk_at "mem"
      case lc =>
        refine' n_lc (own := [("target", 5)]) (g := gName 5) (NS' := [("many", 2), ("target", 5)]) (WS' := [("target", 5)]) (G' := ["is_below"]) (N := ["prime", "value", "many", "turn", "targets", "target"]) (scD := defScope sIsSt) nm rfl rfl (by decide +kernel) (by decide +kernel) (pi_tup ?li) (fun X' nm2 => ?lg) (fun X' nm2 => ?le)
        case li => walk_at "pe"
        case lg => walk_at "pg"
        case le => walk_at "pe"
    refine ⟨_, rfl, _, _, _, _, _, rfl, .ty "tuple", .base (.tup h1), kit_ty (by decide +kernel : kitB "tuple" "tuple" = some true), _, rfl, ?_⟩
    refine iteF ?_
    refine ⟨_, rfl, _, _, rfl, .inr (SqT.of h1), rfl, _, rfl, ?_⟩
    refine iteF ?_
    refine ⟨_, rfl, a, _, rfl, SqT.of h1, rfl, _, _, rfl, _, _, rfl, rfl, ?_⟩
    refine ⟨_, rfl, _, rfl, _, _, _, rfl, kd_int z.1, _, rfl, ?_⟩
    rw [belowV_in ⟨t0, t1⟩]
    refine iteF ?_
    refine ⟨_, rfl, _, _, _, _, _, rfl, .ty "tuple", .base (.tup h2), kit_ty (by decide +kernel : kitB "tuple" "tuple" = some true), _, rfl, ?_⟩
    refine iteF ?_
    refine ⟨_, rfl, _, _, rfl, .inr (SqT.of h2), _, rfl, rfl, _, rfl, ?_⟩
    have e : (!decide (V.int ((z.2.map V.int).length : Int) = V.int p)) = false := by
      rw [List.length_map, hl, decide_eq_true rfl]; rfl
    rw [e]
    refine iteF ?_
    refine ⟨_, rfl, g, rfl, ⟨_, SqT.of h2⟩, fun Dl hD => ?_⟩
    refine lcT (fs := (List.replicate z.2.length true).map V.bl) (SqT.of h2) hD (by simp) (by rw [List.length_map]; exact small1000 (by omega)) ?_ ?_ (fun x => rfl)
    · intro j x y H' Qk hx hy s1 kk
      obtain ⟨d, hd, rfl⟩ : ∃ d, d ∈ z.2 ∧ x = V.int d := by
        rw [List.getElem?_map] at hx
        cases e : z.2[j]? with
        | none => rw [e] at hx; cases hx
        | some u => rw [e] at hx; exact ⟨u, List.mem_of_getElem? e, (Option.some.inj hx).symm⟩
      have ey : y = V.bl true := by
        rw [List.getElem?_map, List.getElem?_replicate] at hy
        split at hy
        · exact (Option.some.inj hy).symm
        · cases hy
      subst ey
      refine ⟨_, rfl, _, rfl, _, _, _, rfl, kd_int d, ?_⟩
      rw [belowV_in (hg d hd)]
      exact kk _ (fun _ _ e => e)
    · intro H' s1 hDl
      refine ⟨Dl, _, rfl, SqL.of hDl, ?_⟩
      rw [all_rep]
      exact k H' s1
theorem scFirst : FnScope ["prime", "states", "at", "state"] ["prime", "states"] (defScope sFirst) := ⟨rfl, rfl, rfl, by decide +kernel, rfl, by decide +kernel, by decide +kernel⟩
theorem nmFirst : nmB ["prime", "states", "at", "state"] [("prime", 0), ("states", 1), ("at", 2), ("state", 3)] ["isinstance", "list", "tuple", "len", "enumerate", "Turner", "_is_state"] (defScope sFirst) = true := by decide +kernel
theorem ok_first {f : Addr} {fd : FuncData} (F : Fun K "_first_wrong" "_first_wrong" sFirst f fd) (B : Bn mg) (cv : Cv K mg C mc u) (D : Df P w K mg base 3 "_is_state" ["prime", "value", "many"] spIsSt) : FnOk P w K mg base CX0 4 f fd ["prime", "states"] spFirst := by
  refine F.ok scFirst (fun vs H Q E h => ?_) (fun cdv A outer s H vs Q E hr h => ?_)
  · obtain ⟨p, a, xs, M, rfl, _⟩ := h
    rfl
  · obtain ⟨p, a, xs, M, rfl, p7, ha, hM, hO, m0, m1, k⟩ := h
    obtain ⟨b1, b2, b3, b4, b5, b6, b7, b8, b9, b10, b11⟩ := B
    have g1 := cv.mgC
    refine' ex_mk ?d ?_
    case d =>
      have nm := nm_of (CX := CX0) (P := P) (w := w) (K := K) (mg := mg) (base := base) (outer := outer) (H := H) (E := E) nmFirst hr
      walk_at "pss"
    have hx : xs.length = M.length := hM.1
    refine ⟨_, rfl, by show 2 ≤ sizeLine; decide, fun q hq => ?_⟩
    have s0 : Same H (upd H q (.tup [.ty "list", .ty "tuple"])) := same_new hq
    refine ⟨_, q, _, _, _, _, rfl, upd_same, .cons (.ty "list") (.cons (.ty "tuple") .nil), .base (.lst (s0 _ _ ha)), kitAny_cons (kit_ty (by decide +kernel : kitB "list" "list" = some true)) (fun z => nomatch z) (fun _ => rfl), _, rfl, ?_⟩
    refine iteF ?_
    refine ⟨_, rfl, _, _, rfl, .inl (SqL.of (s0 _ _ ha)), rfl, _, rfl, ?_⟩
    have e : decide (V.int (xs.length : Int) = V.int 0) = false := decide_eq_false fun z => by
      injection z with z; omega
    rw [e]
    refine iteF ?_
    refine ⟨_, rfl, _, _, _, _, rfl, cv.rd, cv.most, _, rfl, a, xs, rfl, SqL.of (s0 _ _ ha), fun r hr' => ?_⟩
    rw [show cutV xs none (some 240) = xs from cut_all (n := 240) (by omega)]
    have s1 : Same H (upd (upd H q (.tup [.ty "list", .ty "tuple"])) r (.lst xs)) := same_add s0 hr'
    refine ⟨r, xs, rfl, SqL.of upd_same, ?_⟩
    refine for_enum (K := K) (a := r) (xs := xs) (fun i σ H' => ∃ v1 v2, σ = [some (.int p), some (.ref a), v1, v2] ∧ Same H H' ∧ H' r = some (.lst xs)) ⟨none, none, rfl, s1, upd_same⟩ (fun i σ H' ⟨_, _, _, _, e⟩ => SqL.of e) ?_ ?_
    · rintro i x T σ H' hxi ⟨v1, v2, rfl, s2, hr2⟩ hT
      have hi : i < M.length := by rw [← hx]; exact (List.getElem?_eq_some_iff.mp hxi).1
      have hMi : M[i]? = some M[i] := List.getElem?_eq_getElem hi
      have hmem : M[i] ∈ M := List.getElem_mem hi
      have s3 : Same H (upd H' T (.tup [.int (i : Nat), x])) := same_add s2 hT
      refine ⟨T, _, rfl, SqT.of upd_same, rfl, _, _, rfl, _, _, rfl, rfl, ?_⟩
      refine ⟨_, rfl, _, rfl, _, rfl, _, _, rfl, .inl (SqL.of (s3 _ _ ha)), ?_⟩
      refine ⟨p, _, x, M[i], rfl, (hM.2 i x _ hxi hMi).same s3, (hO.turn _ hmem).1, (hO.turn _ hmem).2, hO.many _ hmem, p7, ?_, fun H2 s4 => ⟨_, rfl, ?_⟩⟩
      · rw [hx]; exact hO.goal _ hmem
      · refine iteF ?_
        exact ⟨_, _, rfl, Same.trans s3 s4, s4 _ _ (by rw [upd_ne (ne_of_none hr2 hT)]; exact hr2)⟩
    · rintro σ H' ⟨v1, v2, rfl, s2, hr2⟩
      refine ⟨_, rfl, _, _, rfl, .inl (SqL.of (s2 _ _ ha)), _, _, _, _, rfl, cv.rd, cv.most, _, _, rfl, rfl, _, rfl, ?_⟩
      have c : ¬ (240 : Int) < (xs.length : Int) := by omega
      rw [decide_eq_false c]
      exact iteF (k H' s2)
end

abbrev sInit : Stmt := inClass (top 60) 1
theorem nPS : ¬ ("_prime" : Str) = "_states" := by decide +kernel
theorem nPT : ¬ ("_prime" : Str) = "_start" := by decide +kernel
theorem nST : ¬ ("_states" : Str) = "_start" := by decide +kernel
def tf (p : Int) (t : Addr) (st : Int) : List (Str × V) := putF "_start" (.int st) (putF "_states" (.ref t) (putF "_prime" (.int p) []))
theorem tf_p (p : Int) (t : Addr) (st : Int) : (tf p t st).lookup ("_prime" : Str) = some (.int p) := by
  unfold tf
  rw [lookup_putF, if_neg nPT, lookup_putF, if_neg nPS, lookup_putF, if_pos rfl]
theorem tf_s (p : Int) (t : Addr) (st : Int) : (tf p t st).lookup ("_states" : Str) = some (.ref t) := by
  unfold tf
  rw [lookup_putF, if_neg nST, lookup_putF, if_pos rfl]
theorem tf_t (p : Int) (t : Addr) (st : Int) : (tf p t st).lookup ("_start" : Str) = some (.int st) := by
  unfold tf
  rw [lookup_putF, if_pos rfl]
theorem tf_no (p : Int) (t : Addr) (st : Int) {m : Str} (h1 : ¬ m = "_prime") (h2 : ¬ m = "_states") (h3 : ¬ m = "_start") : (tf p t st).lookup m = none := by
  unfold tf
  rw [lookup_putF, if_neg h3, lookup_putF, if_neg h2, lookup_putF, if_neg h1]
  rfl
/-- the class's facts -/
structure Tc (K : PySem.W.Frag) (C : Addr) : Prop where
  cl : Cls K C
  nP : NoAttr K C "_prime"
  nS : NoAttr K C "_states"
  nT : NoAttr K C "_start"
/-- a turner stands at x -/
def TurAt (C : Addr) (H : Hp) (x : Addr) (p : Int) (M : Mach) (st : Int) : Prop := ∃ dx t xs, H x = some (.ins C dx (tf p t st)) ∧ H t = some (.tup xs) ∧ StsAt H xs M
structure OkT (p : Int) (M : Mach) (st : Int) : Prop where
  pr : IsP p
  ok : OkM p (M.length : Int) M
  st0 : 0 ≤ st
  st1 : st < (M.length : Int)
  le : M.length ≤ 240
theorem TurAt.same {C : Addr} {H H' : Hp} {x : Addr} {p : Int} {M : Mach} {st : Int} (h : TurAt C H x p M st) (e : Same H H') : TurAt C H' x p M st := by
  obtain ⟨dx, t, xs, h1, h2, h3⟩ := h
  exact ⟨dx, t, xs, e _ _ h1, e _ _ h2, h3.same e⟩
theorem TurAt.keep {C : Addr} {H H' : Hp} {x b l : Addr} {p : Int} {M : Mach} {st : Int} (h : TurAt C H x p M st) (B : Bag H b l) (e : Keep b H H') : TurAt C H' x p M st := by
  obtain ⟨dx, t, xs, h1, h2, h3⟩ := h
  exact ⟨dx, t, xs, e _ _ (B.insA h1) h1, e _ _ (B.tup h2) h2, h3.keep B e⟩
def spInit (C : Addr) : Sp := fun vs H Q _ => ∃ (x dx : Addr) (p : Int) (a : Addr) (xs : List V) (M : Mach) (st : Int), vs = [.ref x, .int p, .ref a, .int st] ∧ H x = some (.ins C dx []) ∧ H a = some (.lst xs) ∧ StsAt H xs M ∧ OkT p M st ∧
  ∀ H' t, (∀ c o, c ≠ x → H c = some o → H' c = some o) → H' t = some (.tup xs) → H' x = some (.ins C dx (tf p t st)) → Q .non H'
section
variable {P : Program} {w : World} {K : PySem.W.Frag} {mg : Str → Option Value} {base : Heap} {aP : Addr} {tD : Tok} {C : Addr} {mc u : Value}
theorem scInit : FnScope ["self", "prime", "states", "start", "wrong"] ["self", "prime", "states", "start"] (defScope sInit) := ⟨rfl, rfl, rfl, by decide +kernel, rfl, by decide +kernel, by decide +kernel⟩
theorem nmInit : nmB ["self", "prime", "states", "start", "wrong"] [("self", 0), ("prime", 1), ("states", 2), ("start", 3), ("wrong", 4)] ["check_prime", "_first_wrong", "is_below", "len", "tuple"] (defScope sInit) = true := by decide +kernel
theorem ok_init {f : Addr} {fd : FuncData} (F : FunD K "__init__" "Turner.__init__" (defArgs sInit) (defBody sInit) (defScope sInit) [] [("start", .int 0)] f fd) (B : Bn mg) (T : Tc K C) (D1 : Df P w K mg base 2 "check_prime" ["prime"] spChP) (D2 : Df P w K mg base 2 "is_below" ["value", "bound"] (spBel K))
    (D3 : Df P w K mg base 4 "_first_wrong" ["prime", "states"] spFirst) : FnOk P w K mg base CX0 5 f fd ["self", "prime", "states", "start"] (spInit C) := by
  refine funD_ok F scInit (fun vs H Q E h => ?_) (fun cdv A outer s H vs Q E hr h => ?_)
  · obtain ⟨x, dx, p, a, xs, M, st, rfl, _⟩ := h
    rfl
  · obtain ⟨x, dx, p, a, xs, M, st, rfl, hx, ha, hM, hO, k⟩ := h
    obtain ⟨b1, b2, b3, b4, b5, b6, b7, b8, b9, b10, b11⟩ := B
    refine' ex_mk ?d ?_
    case d =>
      have nm := nm_of (CX := CX0) (P := P) (w := w) (K := K) (mg := mg) (base := base) (outer := outer) (H := H) (E := E) nmInit hr
      walk_at "pss"
    have hl : xs.length = M.length := hM.1
    have h0 := hO.st0
    have h1 := hO.st1
    refine ⟨_, rfl, p, rfl, hO.pr, ?_⟩
    refine ⟨_, rfl, _, rfl, p, a, xs, M, rfl, hO.pr.two.2, ha, hM, hO.ok, by omega, hO.le, fun H1 s1 => ?_⟩
    refine ⟨_, rfl, rfl, _, rfl, ?_⟩
    refine iteF ?_
    refine ⟨_, rfl, _, rfl, _, _, rfl, .inl (SqL.of (s1 _ _ ha)), _, _, _, rfl, kd_int st, _, rfl, ?_⟩
    rw [belowV_in ⟨h0, by omega⟩]
    refine iteF ?_
    refine ⟨_, rfl, _, rfl, x, C, dx, [], rfl, s1 _ _ hx, T.cl, T.nP, by show 0 < 1000; decide, ?_⟩
    have nax : a ≠ x := ne_of ha hx (by intro q; cases q)
    refine ⟨_, rfl, a, xs, rfl, .inl ⟨SqL.of (by rw [upd_ne nax]; exact s1 _ _ ha), fun t ht => ?_⟩⟩
    have ntx : x ≠ t := ne_of_none upd_same ht
    refine ⟨_, rfl, x, C, dx, _, rfl, by rw [upd_ne ntx]; exact upd_same, T.cl, T.nS, by show 1 < 1000; decide, ?_⟩
    refine ⟨_, rfl, _, rfl, x, C, dx, _, rfl, upd_same, T.cl, T.nT, ?_, ?_⟩
    · refine Nat.lt_of_le_of_lt (m := 2) ?_ (by decide)
      show (putF "_states" (.ref t) [("_prime", .int p)]).length ≤ 2
      unfold putF
      rw [if_neg nPS]
      exact Nat.le_refl 2
    · refine k _ t (fun c o n e => ?_) ?_ ?_
      · rw [upd_ne n, upd_ne n, upd_ne (ne_of_none (show upd H1 x _ c = some o by rw [upd_ne n]; exact s1 _ _ e) ht), upd_ne n]
        exact s1 _ _ e
      · rw [upd_ne ntx.symm, upd_ne ntx.symm, upd_same]
      · exact upd_same
end

theorem StsAt.get {H : Hp} {xs : List V} {M : Mach} (h : StsAt H xs M) {s : Int} (s0 : 0 ≤ s) (s1 : s < (M.length : Int)) : ∃ a g, atI xs s = some (.ref a) ∧ H a = some (.tup [.int (turnM M s), .ref g]) ∧ H g = some (.tup ((M.getD s.toNat (0, [])).2.map V.int)) := by
  have hs : s.toNat < M.length := by omega
  have hx : s.toNat < xs.length := by rw [h.1]; exact hs
  have e1 : xs[s.toNat]? = some xs[s.toNat] := List.getElem?_eq_getElem hx
  have e2 : M[s.toNat]? = some M[s.toNat] := List.getElem?_eq_getElem hs
  obtain ⟨a, g, ev, h1, h2⟩ := h.2 _ _ _ e1 e2
  have eM : M.getD s.toNat (0, []) = M[s.toNat] := by rw [List.getD_eq_getElem?_getD, e2]; rfl
  refine ⟨a, g, at_of (j := s.toNat) (by omega) (by rw [e1, ev]), ?_, ?_⟩
  · unfold turnM; rw [eM]; exact h1
  · rw [eM]; exact h2
theorem at_ints {l : List Int} {d : Int} (d0 : 0 ≤ d) (d1 : d < (l.length : Int)) : atI (l.map V.int) d = some (.int (l.getD d.toNat 0)) := by
  have hd : d.toNat < l.length := by omega
  refine at_of (j := d.toNat) (by omega) ?_
  rw [List.getElem?_map, List.getD_eq_getElem?_getD, List.getElem?_eq_getElem hd]; rfl
theorem many_at {p n : Int} {M : Mach} (h : OkM p n M) {s : Int} (s0 : 0 ≤ s) (s1 : s < (M.length : Int)) : (((M.getD s.toNat (0, [])).2).length : Int) = p := by
  have hs : s.toNat < M.length := by omega
  rw [List.getD_eq_getElem?_getD, List.getElem?_eq_getElem hs]
  exact h.many _ (List.getElem_mem hs)
section
variable {P : Program} {w : World} {K : PySem.W.Frag} {mg : Str → Option Value} {base : Heap} {aP : Addr} {tD : Tok} {C : Addr} {mc u : Value}
end

abbrev sSame : Stmt := top 66
section
variable {P : Program} {w : World} {K : PySem.W.Frag} {mg : Str → Option Value} {base : Heap}
theorem kitLT {T : String} (h : T = "NoneType" ∨ T = "bool" ∨ T = "int" ∨ T = "str") : PySem.W.kitAny K (.type T) [.type "list", .type "tuple"] = some false := by
  have e1 : kitB T "list" = some false := by rcases h with h | h | h | h <;> subst h <;> decide +kernel
  have e2 : kitB T "tuple" = some false := by rcases h with h | h | h | h <;> subst h <;> decide +kernel
  exact kitAny_cons (kit_ty e1) (fun _ => kitAny_cons (kit_ty e2) (fun _ => kitAny_nil) (fun z => nomatch z)) (fun z => nomatch z)
theorem kitL : PySem.W.kitAny K (.type "list") [.type "list", .type "tuple"] = some true := kitAny_cons (kit_ty (by decide +kernel : kitB "list" "list" = some true)) (fun z => nomatch z) (fun _ => rfl)
theorem kitT : PySem.W.kitAny K (.type "tuple") [.type "list", .type "tuple"] = some true :=
  kitAny_cons (kit_ty (by decide +kernel : kitB "tuple" "list" = some false)) (fun _ => kitAny_cons (kit_ty (by decide +kernel : kitB "tuple" "tuple" = some true)) (fun z => nomatch z) (fun _ => rfl)) (fun z => nomatch z)
theorem kit_str {T : String} (h : T = "NoneType" ∨ T = "bool" ∨ T = "int" ∨ T = "str") : kitB T "str" = some (decide (T = "str")) := by
  rcases h with h | h | h | h <;> subst h <;> decide +kernel
theorem scSame : FnScope ["_law_found", "_law_due", "_law_a", "_law_b"] ["_law_found", "_law_due"] (defScope sSame) := ⟨rfl, rfl, rfl, by decide +kernel, rfl, by decide +kernel, by decide +kernel⟩
theorem nmSame : nmB ["_law_found", "_law_due", "_law_a", "_law_b"] [("_law_found", 0), ("_law_due", 1)] ["isinstance", "list", "tuple", "bool", "int", "str", "len", "all", "zip"] (defScope sSame) = true := by decide +kernel
theorem bne_self (b : Bool) : (!decide (V.bl b = V.bl b)) = false := by rw [decide_eq_true rfl]; rfl
theorem ok_same {n : Nat} {f : Addr} {fd : FuncData} (F : Fun K "_law_same" "_law_same" sSame f fd) (B : Bn mg) (bs : mg "str" = none) (D : Df P w K mg base n "_law_same" ["_law_found", "_law_due"] (spS K n)) : FnOk P w K mg base CX0 (n + 1) f fd ["_law_found", "_law_due"] (spS K (n + 1)) := by
  refine F.ok scSame (fun vs H Q E h => ?_) (fun cdv A outer s H vs Q E hr h => ?_)
  · obtain ⟨x, y, rfl, _⟩ := h
    rfl
  · obtain ⟨x, y, rfl, he, k⟩ := h
    obtain ⟨b1, b2, b3, b4, b5, b6, b7, b8, b9, b10, b11⟩ := B
    refine' ex_mk ?d ?_
    case d =>
      have nm := nm_of (CX := CX0) (P := P) (w := w) (K := K) (mg := mg) (base := base) (outer := outer) (H := H) (E := E) nmSame hr
      refine' pss_cons (ps_if ?c1 (pss_cons ?s1 (pss_one (ps_ret (pe_and ?l1 (pe_one (n_b (x := "all") nm (by walk_at "as") (cr_all nm.calm) PyProof.Rows.boot_all ?bg (pa_cons ?lc pa_nil))))))) pss_nil) ?rest
      case c1 => walk_at "pt"
      case s1 => walk_at "ps"
      case l1 => walk_at "pe"
      case bg => walk_at "mem"
      case rest => walk_at "pss"
      case lc =>
        refine' n_lc (own := [("_law_a", 2), ("_law_b", 3)]) (g := gTup K 2 (gCons (gName 2) (gCons (gName 3) gNil))) (NS' := [("_law_a", 2), ("_law_b", 3)]) (WS' := [("_law_a", 2), ("_law_b", 3)]) (G' := ["_law_same"]) (N := ["_law_found", "_law_due", "_law_a", "_law_b"]) (scD := defScope sSame) nm rfl rfl (by decide +kernel) (by decide +kernel) (n_zipA nm (by walk_at "as") ?zg ?za) (fun X' nm2 => ?lg) (fun X' nm2 => ?le)
        case zg => walk_at "mem"
        case za => walk_at "pa"
        case lg => walk_at "pg"
        case le =>
          refine' n_d nm2 D (Nat.le_refl _) ?ug ?ua
          case ug => walk_at "mem"
          case ua => walk_at "pa"
    refine ⟨_, rfl, by show 2 ≤ sizeLine; decide, fun q hq => ?_⟩
    have s0 : Same H (upd H q (.tup [.ty "list", .ty "tuple"])) := same_new hq
    have he' := he.same s0
    have cls : Paired ClsV [V.ty "list", V.ty "tuple"] [Value.type "list", Value.type "tuple"] := .cons (.ty "list") (.cons (.ty "tuple") .nil)
    cases he' with
    | flat hf =>
      obtain ⟨T, ty, hT⟩ := ty_flat (K := K) (H := upd H q (.tup [.ty "list", .ty "tuple"])) hf
      have h6 : T = "NoneType" ∨ T = "bool" ∨ T = "int" ∨ T = "str" ∨ T = "list" ∨ T = "tuple" := by
        rcases hT with h | h | h | h
        · exact .inl h
        · exact .inr (.inl h)
        · exact .inr (.inr (.inl h))
        · exact .inr (.inr (.inr (.inl h)))
      refine ⟨_, q, _, _, _, _, rfl, upd_same, cls, ty, kitLT hT, _, rfl, ?_⟩
      refine iteF ?_
      refine ⟨_, rfl, rfl, _, rfl, ?_⟩
      by_cases c : x = .non
      · subst c
        refine ⟨_, rfl, rfl, _, rfl, _, rfl, rfl, ?_⟩
        exact k _ s0
      · rw [decide_eq_false c]
        refine iteF ?_
        refine ⟨_, rfl, rfl, _, rfl, ?_⟩
        rw [decide_eq_false c]
        refine iteF ?_
        refine ⟨_, rfl, _, _, _, _, _, rfl, .ty "bool", ty, kit_ty (kit_bool h6), _, rfl, _, _, _, _, _, rfl, .ty "bool", ty, kit_ty (kit_bool h6), rfl, _, rfl, ?_⟩
        rw [bne_self]
        refine iteF ?_
        refine ⟨_, rfl, _, _, _, _, _, rfl, .ty "int", ty, kit_ty (kit_int h6), _, rfl, _, _, _, _, _, rfl, .ty "int", ty, kit_ty (kit_int h6), rfl, _, rfl, ?_⟩
        rw [bne_self]
        refine iteF ?_
        refine ⟨_, rfl, _, _, _, _, _, rfl, .ty "str", ty, kit_ty (kit_str hT), _, rfl, _, _, _, _, _, rfl, .ty "str", ty, kit_ty (kit_str hT), rfl, _, rfl, ?_⟩
        rw [decide_eq_true (rfl : V.bl (decide (T = "str")) = V.bl (decide (T = "str")))]
        refine iteT ?_
        refine ⟨_, rfl, _, rfl, scal_flat hf c, ?_⟩
        rw [decide_eq_true (rfl : x = x)]
        exact k _ s0
    | @lst m a b xs ys ha hb hl hz hall =>
      refine ⟨_, q, _, _, _, _, rfl, upd_same, cls, ty_l hb, kitL, _, rfl, ?_⟩
      refine iteT ?_
      refine ⟨_, rfl, _, _, _, _, _, rfl, .ty "list", ty_l ha, kit_ty (by decide +kernel : kitB "list" "list" = some true), _, rfl, _, _, _, _, _, rfl, .ty "list", ty_l hb, kit_ty (by decide +kernel : kitB "list" "list" = some true), rfl, _, rfl, ?_⟩
      refine iteF ?_
      refine ⟨_, rfl, _, _, _, _, _, rfl, .ty "tuple", ty_l ha, kit_ty (by decide +kernel : kitB "list" "tuple" = some false), _, rfl, _, _, _, _, _, rfl, .ty "tuple", ty_l hb, kit_ty (by decide +kernel : kitB "list" "tuple" = some false), rfl, _, rfl, ?_⟩
      refine iteF ?_
      refine ⟨_, rfl, a, xs, rfl, .inl ha, _, rfl, b, ys, rfl, .inl hb, rfl, _, rfl, ?_⟩
      rw [decide_eq_true (by rw [hl] : V.int (xs.length : Int) = V.int (ys.length : Int))]
      refine iteT ?_
      refine ⟨_, rfl, _, rfl, a, b, xs, ys, rfl, .inl ⟨ha, hb, fun Dl hD => ?_⟩⟩
      refine lcZg (xs := xs) (ys := ys) (fs := (List.replicate xs.length true).map V.bl) hl hD (by simp) (small1000 hz) (fun H2 j u v s1 h1 h2 => ⟨xs, ys, u, v, Same.seq s1 ha, Same.seq s1 hb, h1, h2⟩) (fun H2 s1 => ⟨xs, ys, Same.seq s1 ha, Same.seq s1 hb, .inl (Nat.le_refl _)⟩)
        (fun H2 j v H3 s1 hy => by obtain ⟨T, u, z, e1, e2, e3, e4, e5⟩ := hy; exact ⟨T, u, z, e1, e2, e3, e4 xs (Same.seq s1 ha), e5 ys (Same.seq s1 hb)⟩) ?_ ?_ (fun x y => rfl)
      · intro j u v z H2 Qk h1 h2 h3 s1 kk
        have ez : z = V.bl true := by
          rw [List.getElem?_map, List.getElem?_replicate] at h3
          split at h3
          · exact (Option.some.inj h3).symm
          · cases h3
        subst ez
        exact ⟨_, rfl, _, rfl, u, v, rfl, (hall j u v h1 h2).same s1, kk⟩
      · intro H2 s1 hDl
        refine ⟨Dl, _, rfl, SqL.of hDl, ?_⟩
        rw [all_rep]
        exact k H2 (Same.trans s0 s1)
    | @tup m a b xs ys ha hb hl hz hall =>
      refine ⟨_, q, _, _, _, _, rfl, upd_same, cls, ty_t hb, kitT, _, rfl, ?_⟩
      refine iteT ?_
      refine ⟨_, rfl, _, _, _, _, _, rfl, .ty "list", ty_t ha, kit_ty (by decide +kernel : kitB "tuple" "list" = some false), _, rfl, _, _, _, _, _, rfl, .ty "list", ty_t hb, kit_ty (by decide +kernel : kitB "tuple" "list" = some false), rfl, _, rfl, ?_⟩
      refine iteF ?_
      refine ⟨_, rfl, _, _, _, _, _, rfl, .ty "tuple", ty_t ha, kit_ty (by decide +kernel : kitB "tuple" "tuple" = some true), _, rfl, _, _, _, _, _, rfl, .ty "tuple", ty_t hb, kit_ty (by decide +kernel : kitB "tuple" "tuple" = some true), rfl, _, rfl, ?_⟩
      refine iteF ?_
      refine ⟨_, rfl, a, xs, rfl, .inr ha, _, rfl, b, ys, rfl, .inr hb, rfl, _, rfl, ?_⟩
      rw [decide_eq_true (by rw [hl] : V.int (xs.length : Int) = V.int (ys.length : Int))]
      refine iteT ?_
      refine ⟨_, rfl, _, rfl, a, b, xs, ys, rfl, .inr ⟨ha, hb, fun Dl hD => ?_⟩⟩
      refine lcZg (xs := xs) (ys := ys) (fs := (List.replicate xs.length true).map V.bl) hl hD (by simp) (small1000 hz) (fun H2 j u v s1 h1 h2 => ⟨xs, ys, u, v, sqT_same s1 ha, sqT_same s1 hb, h1, h2⟩) (fun H2 s1 => ⟨xs, ys, sqT_same s1 ha, sqT_same s1 hb, .inl (Nat.le_refl _)⟩)
        (fun H2 j v H3 s1 hy => by obtain ⟨T, u, z, e1, e2, e3, e4, e5⟩ := hy; exact ⟨T, u, z, e1, e2, e3, e4 xs (sqT_same s1 ha), e5 ys (sqT_same s1 hb)⟩) ?_ ?_ (fun x y => rfl)
      · intro j u v z H2 Qk h1 h2 h3 s1 kk
        have ez : z = V.bl true := by
          rw [List.getElem?_map, List.getElem?_replicate] at h3
          split at h3
          · exact (Option.some.inj h3).symm
          · cases h3
        subst ez
        exact ⟨_, rfl, _, rfl, u, v, rfl, (hall j u v h1 h2).same s1, kk⟩
      · intro H2 s1 hDl
        refine ⟨Dl, _, rfl, SqL.of hDl, ?_⟩
        rw [all_rep]
        exact k H2 (Same.trans s0 s1)
end

abbrev sMade : Stmt := top 71
/-- the law's own machine: a tuple of the prime, the list of its states, the start -/
def MAt (H : Hp) (t : Addr) (p : Int) (M : Mach) (st : Int) : Prop := ∃ r xs, H t = some (.tup [.int p, .ref r, .int st]) ∧ H r = some (.lst xs) ∧ StsAt H xs M
theorem MAt.same {H H' : Hp} {t : Addr} {p : Int} {M : Mach} {st : Int} (h : MAt H t p M st) (e : Same H H') : MAt H' t p M st := by
  obtain ⟨r, xs, h1, h2, h3⟩ := h
  exact ⟨r, xs, e _ _ h1, e _ _ h2, h3.same e⟩
def spMade (C : Addr) : Sp := fun vs H Q _ => ∃ (t : Addr) (p : Int) (M : Mach) (st : Int), vs = [.ref t] ∧ MAt H t p M st ∧ OkT p M st ∧ ∀ H' x, Same H H' → H x = none → TurAt C H' x p M st → Q (.ref x) H'
def gMk (vs zs : List V) : List V := vs ++ zs
section
variable {P : Program} {w : World} {K : PySem.W.Frag} {mg : Str → Option Value} {base : Heap} {aP : Addr} {tD : Tok} {C : Addr} {mc u : Value}
theorem scMade : FnScope ["_law_m"] ["_law_m"] (defScope sMade) := ⟨rfl, rfl, rfl, by decide +kernel, rfl, by decide +kernel, by decide +kernel⟩
theorem nmMade : nmB ["_law_m"] [("_law_m", 0)] ["Turner", "list"] (defScope sMade) = true := by decide +kernel
theorem ok_made {f : Addr} {fd : FuncData} (F : Fun K "_law_made" "_law_made" sMade f fd) (B : Bn mg) (cv : Cv K mg C mc u) (D : Kf P w K mg base 5 C 2 ["self", "prime", "states", "start"] ["start"] gMk (spInit C)) : FnOk P w K mg base CX0 7 f fd ["_law_m"] (spMade C) := by
  refine F.ok scMade (fun vs H Q E h => ?_) (fun cdv A outer s H vs Q E hr h => ?_)
  · obtain ⟨t, p, M, st, rfl, _⟩ := h
    rfl
  · obtain ⟨t, p, M, st, rfl, ⟨r, xs, h1, h2, h3⟩, hO, k⟩ := h
    obtain ⟨b1, b2, b3, b4, b5, b6, b7, b8, b9, b10, b11⟩ := B
    refine' ex_mk ?d ?_
    case d =>
      have nm := nm_of (CX := CX0) (P := P) (w := w) (K := K) (mg := mg) (base := base) (outer := outer) (H := H) (E := E) nmMade hr
      refine' pss_one (ps_ret (n_mk nm cv.mgC D (by decide) ?g (pa_cons ?a1 (pa_cons (n_t (x := "list") nm (by walk_at "as") call_list_of PyProof.Rows.boot_list ?bg (pa_cons ?a2 pa_nil)) pa_nil)) (pk_cons ?a3 pk_nil)))
      case g => walk_at "mem"
      case bg => walk_at "mem"
      case a1 => walk_at "peT"
      case a2 => walk_at "peT"
      case a3 => walk_at "peT"
    refine ⟨_, rfl, t, _, 0, _, rfl, rfl, SqT.of h1, rfl, ?_⟩
    refine ⟨_, rfl, t, _, 1, _, rfl, rfl, SqT.of h1, rfl, r, xs, rfl, .inl (SqL.of h2), fun l hl => ?_⟩
    have s1 : Same H (upd H l (.lst xs)) := same_new hl
    refine ⟨_, rfl, t, _, 2, _, rfl, rfl, SqT.of (s1 _ _ h1), rfl, rfl, rfl, fun x dx nx ndx ne => ?_⟩
    have s2 : Same H (upd (upd (upd H l (.lst xs)) dx (.own x)) x (.ins C dx [])) := fun c o e => by
      rw [upd_ne (ne_of_none (s1 _ _ e) nx), upd_ne (ne_of_none (s1 _ _ e) ndx)]
      exact s1 _ _ e
    have hx0 : H x = none := Same.free s1 nx
    have hl2 : upd (upd (upd H l (.lst xs)) dx (.own x)) x (.ins C dx []) l = some (.lst xs) := by
      rw [upd_ne (ne_of_none upd_same nx), upd_ne (ne_of_none upd_same ndx), upd_same]
    refine ⟨x, dx, p, l, xs, M, st, rfl, upd_same, hl2, h3.same s2, hO, fun H' t' hk ht hx => ⟨rfl, ?_⟩⟩
    have s3 : Same H H' := fun c o e => hk c o (ne_of_none e hx0) (s2 _ _ e)
    exact k H' x s3 hx0 ⟨dx, t', xs, hx, ht, h3.same s3⟩
end

/-- C(e, ..), the start by its default -/
structure Kd0 (P : Program) (w : World) (K : PySem.W.Frag) (mg : Str → Option Value) (base : Heap) (k : Nat) (C : Addr) (ps : List Str) (sp : Sp) : Prop where
  ex : ∃ f fd ds, Mk K C f ∧ Vals [V.int 0] ds ∧ Binds K fd ps ds ∧ FnOk P w K mg base CX0 k f fd ps sp
abbrev sStates : Stmt := inClass (top 60) 7
def spSts (C : Addr) : Sp := fun vs H Q _ => ∃ (x : Addr) (p : Int) (M : Mach) (st : Int), vs = [.ref x] ∧ TurAt C H x p M st ∧ ∀ H' r xs, Same H H' → H r = none → H' r = some (.lst xs) → StsAt H' xs M → Q (.ref r) H'
section
variable {P : Program} {w : World} {K : PySem.W.Frag} {mg : Str → Option Value} {base : Heap} {aP : Addr} {tD : Tok} {C : Addr} {mc u : Value}
theorem scSts : FnScope ["self"] ["self"] (defScope sStates) := ⟨rfl, rfl, rfl, by decide +kernel, rfl, by decide +kernel, by decide +kernel⟩
theorem nmSts : nmB ["self"] [("self", 0)] ["list"] (defScope sStates) = true := by decide +kernel
theorem ok_sts {f : Addr} {fd : FuncData} (F : Fun K "states" "Turner.states" sStates f fd) (B : Bn mg) (T : Tc K C) : FnOk P w K mg base CX0 1 f fd ["self"] (spSts C) := by
  refine F.ok scSts (fun vs H Q E h => ?_) (fun cdv A outer s H vs Q E hr h => ?_)
  · obtain ⟨x, p, M, st, rfl, _⟩ := h
    rfl
  · obtain ⟨x, p, M, st, rfl, hT, k⟩ := h
    obtain ⟨b1, b2, b3, b4, b5, b6, b7, b8, b9, b10, b11⟩ := B
    refine' ex_mk ?d ?_
    case d =>
      have nm := nm_of (CX := CX0) (P := P) (w := w) (K := K) (mg := mg) (base := base) (outer := outer) (H := H) (E := E) nmSts hr
      walk_at "pss"
    obtain ⟨dx, t, xs, h1, h2, h3⟩ := hT
    refine ⟨_, rfl, x, C, dx, _, _, rfl, h1, T.cl, T.nS, tf_s _ _ _, t, xs, rfl, .inr (SqT.of h2), fun l hl => ?_⟩
    exact k _ l xs (same_new hl) hl upd_same (h3.same (same_new hl))
end

abbrev sLUnd : Stmt := top 72
def spLUnd : Sp := fun vs H Q _ => ∃ (t : Addr) (p : Int) (M : Mach) (st : Int), vs = [.ref t] ∧ MAt H t p M st ∧ OkT p M st ∧ ∀ H' y, Same H H' → MAt H' y p (undM p M) st → Q (.ref y) H'
theorem undM_take (p : Int) (M : Mach) (i : Nat) (h : i < M.length) : undM p (M.take (i + 1)) = undM p (M.take i) ++ [undS p M[i]] := by
  unfold undM
  rw [List.take_add_one, List.getElem?_eq_getElem h, List.map_append]; rfl
theorem flat_rep0 (n : Nat) : (List.replicate n [V.int 0]).flatten = (List.replicate n (0 : Int)).map V.int := by
  rw [flat_rep, List.map_replicate]
theorem ixN_in {n : Nat} {i : Int} (i0 : 0 ≤ i) (i1 : i < (n : Int)) : ixN n i = some i.toNat := by
  unfold ixN
  have h1 : ¬ i < 0 := by omega
  simp [h1, i0]
  try omega
section
variable {P : Program} {w : World} {K : PySem.W.Frag} {mg : Str → Option Value} {base : Heap} {aP : Addr} {tD : Tok} {C : Addr} {mc u : Value}
theorem scLUnd : FnScope ["_law_m", "_law_p", "_law_rows", "_law_turn", "_law_goals", "_law_late", "_law_x"] ["_law_m"] (defScope sLUnd) := ⟨rfl, rfl, rfl, by decide +kernel, rfl, by decide +kernel, by decide +kernel⟩
theorem nmLUnd : nmB ["_law_m", "_law_p", "_law_rows", "_law_turn", "_law_goals", "_law_late", "_law_x"] [("_law_m", 0), ("_law_p", 1), ("_law_rows", 2), ("_law_turn", 3), ("_law_goals", 4), ("_law_late", 5), ("_law_x", 6)] ["range", "int", "tuple"] (defScope sLUnd) = true := by decide +kernel
theorem ok_lund {f : Addr} {fd : FuncData} (F : Fun K "_law_undone" "_law_undone" sLUnd f fd) (B : Bn mg) : FnOk P w K mg base CX0 1 f fd ["_law_m"] spLUnd := by
  refine F.ok scLUnd (fun vs H Q E h => ?_) (fun cdv A outer s H vs Q E hr h => ?_)
  · obtain ⟨t, p, M, st, rfl, _⟩ := h
    rfl
  · obtain ⟨t, p, M, st, rfl, ⟨m, xs, h1, h2, h3⟩, hO, k⟩ := h
    have p2 := hO.pr.two
    have hle := hO.le
    obtain ⟨b1, b2, b3, b4, b5, b6, b7, b8, b9, b10, b11⟩ := B
    refine' ex_mk ?d ?_
    case d =>
      have nm := nm_of (CX := CX0) (P := P) (w := w) (K := K) (mg := mg) (base := base) (outer := outer) (H := H) (E := E) nmLUnd hr
      refine' pss_cons (ps_par (i := 1) (j := 2) rfl nm.nd rfl rfl (by decide) rfl rfl (pa_cons ?e1 (pa_cons ?e2 pa_nil)) (by rfl))
        (pss_cons (n_for nm PassesOwn.never (pi_list ?li) ?lg (pss_cons (ps_asg (pe_op op_rep ?a1 ?a2) ?a3) (pss_cons (n_for nm PassesOwn.never ?ri ?rg (pss_one (ps_asg (n_ixT nm ?c1 ?c2 (fun _ _ => rfl)) ?c3))) (pss_one ?b3))))
          (pss_one (ps_ret (pe_tup (pa_cons ?r1 (pa_cons ?r2 (pa_cons ?r3 pa_nil)))))))
      case e1 => walk_at "peT"
      case e2 => walk_at "pe"
      case li => walk_at "peT"
      case lg => walk_at "pg"
      case a1 => walk_at "pe"
      case a2 => walk_at "pe"
      case a3 => walk_at "pg"
      case ri => walk_at "pi"
      case rg => walk_at "pg"
      case c1 => walk_at "pe"
      case c2 => walk_at "pe"
      case c3 => walk_at "pg"
      case b3 => walk_at "ps"
      case r1 => walk_at "pe"
      case r2 => walk_at "pe"
      case r3 => walk_at "peT"
    refine ⟨_, rfl, t, _, 0, _, rfl, rfl, SqT.of h1, rfl, ?_⟩
    refine ⟨by show 0 ≤ sizeLine; decide, fun r hr1 => ?_⟩
    have s1 : Same H (upd H r (.lst [])) := same_new hr1
    refine ⟨_, _, rfl, ?_⟩
    refine ⟨_, rfl, t, _, 1, _, rfl, rfl, SqT.of (s1 _ _ h1), rfl, m, rfl, ⟨_, SqL.of (s1 _ _ h2)⟩, ?_⟩
    refine for_list (K := K) (a := m) (xs := xs) (fun i σ H' => ∃ v3 v4 v5 v6 ys, σ = [some (.ref t), some (.int p), some (.ref r), v3, v4, v5, v6] ∧ Same H H' ∧ H' r = some (.lst ys) ∧ StsAt H' ys (undM p (M.take i)))
      ⟨none, none, none, none, [], rfl, s1, upd_same, ⟨rfl, fun i x z e => by simp at e⟩⟩ (fun i σ H' _ ⟨_, _, _, _, _, _, e, _⟩ => SqL.of (e _ _ h2)) ?_ ?_
    · rintro i y σ H' hy ⟨v3, v4, v5, v6, ys, rfl, s2, hr2, hM⟩
      have hi : i < M.length := by rw [← h3.1]; exact (List.getElem?_eq_some_iff.mp hy).1
      have hz : M[i]? = some M[i] := List.getElem?_eq_getElem hi
      obtain ⟨a, g, rfl, e1, e2⟩ := (h3.same s2).2 i y _ hy hz
      have hmany := hO.ok.many _ (List.getElem_mem hi)
      refine ⟨a, _, rfl, SqT.of e1, rfl, _, _, rfl, _, _, rfl, rfl, ?_⟩
      refine ⟨by show 1 ≤ sizeLine; decide, fun q0 hq0 => ?_⟩
      refine ⟨_, rfl, q0, p, [.int 0], rfl, rfl, upd_same, by omega, by omega, Nat.le_of_lt (small1000 (by show 1 * p.toNat ≤ 1000; omega)), fun l hl => ?_⟩
      have sl : Same H' (upd (upd H' q0 (.lst [.int 0])) l (.lst (List.replicate p.toNat [V.int 0]).flatten)) := same_add (same_new hq0) hl
      have hl0 : H' l = none := Same.free (same_new hq0) hl
      refine ⟨_, rfl, _, rfl, by omega, by omega, for_range (lo := 0) (n := p.toNat) (fun j σ H2 => ∃ v6, σ = [some (.ref t), some (.int p), some (.ref r), some (.int M[i].1), some (.ref g), some (.ref l), v6] ∧ Same H' H2 ∧ H2 l = some (.lst ((lateM p M[i].1 M[i].2 j).map V.int)))
        ⟨v6, rfl, sl, by rw [upd_same, flat_rep0]; rfl⟩ ?_ ?_⟩
      · rintro j σ H2 hj ⟨w6, rfl, s3, hl3⟩
        have ez : (0 : Int) + (j : Int) = (j : Int) := by omega
        rw [ez]
        have ea := at_ints (l := M[i].2) (d := (j : Int)) (by omega) (by omega)
        rw [Int.toNat_natCast] at ea
        have md := md_in hO.pr ((j : Int) + M[i].1)
        refine ⟨_, rfl, _, rfl, g, _, _, _, rfl, rfl, SqT.of (s3 _ _ e2), ea, ?_⟩
        refine ⟨_, rfl, _, rfl, _, rfl, _, _, rfl, rfl, .inl ⟨_, rfl, ?_⟩⟩
        refine ⟨_, rfl, _, _, rfl, rfl, (by show (0 : Int) < p; omega), ?_⟩
        refine ⟨l, _, _, (((j : Int) + M[i].1) % p).toNat, rfl, rfl, hl3, ixN_in md.1 (by rw [List.length_map, lateM_len]; omega), ?_⟩
        refine ⟨_, rfl, same_put s3 hl0, ?_⟩
        rw [upd_same, lateM, List.map_set]
      · rintro σ H2 ⟨w6, rfl, s3, hl3⟩
        have hr3 : H2 r = some (.lst ys) := s3 _ _ hr2
        refine ⟨_, rfl, .inl ⟨rfl, _, SqL.of hr3⟩, ?_⟩
        refine ⟨_, rfl, _, rfl, _, _, rfl, rfl, .inl ⟨_, rfl, ?_⟩⟩
        refine ⟨_, rfl, _, _, rfl, rfl, (by show (0 : Int) < p; omega), ?_⟩
        refine ⟨_, rfl, l, _, rfl, .inl ⟨SqL.of hl3, fun u hu => ?_⟩⟩
        refine ⟨by show 2 ≤ sizeLine; decide, fun q hq => ?_⟩
        have s4 : Same H2 (upd (upd H2 u (.tup ((lateM p M[i].1 M[i].2 p.toNat).map V.int))) q (.tup [.int ((p - M[i].1) % p), .ref u])) := same_add (same_new hu) hq
        refine ⟨r, _, _, rfl, rfl, s4 _ _ hr3, ?_, ?_⟩
        · rw [hM.1, undM_len, List.length_take]
          exact small1000 (by omega)
        · have hS : StAt (upd (upd H2 u (.tup ((lateM p M[i].1 M[i].2 p.toNat).map V.int))) q (.tup [.int ((p - M[i].1) % p), .ref u])) (.ref q) (undS p M[i]) := by
            have hturn := hO.ok.turn _ (List.getElem_mem hi)
            refine ⟨q, u, rfl, ?_, ?_⟩
            · rw [upd_same, md_late hO.pr hturn.1 hturn.2]; rfl
            · rw [upd_ne (ne_of_none upd_same hq), upd_same, lateM_end hO.pr]
          refine ⟨_, _, _, _, ys ++ [.ref q], rfl, same_put (Same.trans s2 (Same.trans s3 s4)) hr1, upd_same, ?_⟩
          rw [undM_take p M i hi]
          exact ((hM.same (Same.trans s3 s4)).snoc hS).lst (s4 _ _ hr3)
    · rintro σ H' ⟨v3, v4, v5, v6, ys, rfl, s2, hr2, hM⟩
      rw [h3.1, List.take_length] at hM
      refine ⟨_, rfl, _, rfl, _, rfl, t, _, 2, _, rfl, rfl, SqT.of (s2 _ _ h1), rfl, by show 3 ≤ sizeLine; decide, fun y hy => ?_⟩
      refine k _ y (same_add s2 hy) ⟨r, ys, upd_same, ?_, hM.same (same_new hy)⟩
      rw [upd_ne (ne_of_none hr2 hy)]; exact hr2
end

abbrev sJoin : Stmt := top 73
def spJoin : Sp := fun vs H Q _ => ∃ (t u : Addr) (p : Int) (M N : Mach) (st sd : Int), vs = [.ref t, .ref u] ∧ MAt H t p M st ∧ OkT p M st ∧ MAt H u p N sd ∧ OkT p N sd ∧ M.length * N.length ≤ 200 ∧
  ∀ H' y J, Same H H' → Done p M N (st, sd) J → MAt H' y p (outJ p M N (st, sd) J) 0 → Q (.ref y) H'
section
variable {P : Program} {w : World} {K : PySem.W.Frag} {mg : Str → Option Value} {base : Heap} {aP : Addr} {tD : Tok} {C : Addr} {mc u : Value}
theorem scJoin : FnScope ["_law_m", "_law_n", "_law_p", "_law_keys", "_law_rows", "_law_a", "_law_b", "_law_turn", "_law_goals", "_law_x", "_law_pair"] ["_law_m", "_law_n"] (defScope sJoin) := ⟨rfl, rfl, rfl, by decide +kernel, rfl, by decide +kernel, by decide +kernel⟩
theorem nmJoin : nmB ["_law_m", "_law_n", "_law_p", "_law_keys", "_law_rows", "_law_a", "_law_b", "_law_turn", "_law_goals", "_law_x", "_law_pair"] [("_law_m", 0), ("_law_n", 1), ("_law_p", 2), ("_law_keys", 3), ("_law_rows", 4), ("_law_a", 5), ("_law_b", 6), ("_law_turn", 7), ("_law_goals", 8), ("_law_x", 9), ("_law_pair", 10)] ["len", "range", "int", "tuple"] (defScope sJoin) = true := by decide +kernel
theorem ok_join {f : Addr} {fd : FuncData} (F : Fun K "_law_joined" "_law_joined" sJoin f fd) (B : Bn mg) : FnOk P w K mg base CX0 1 f fd ["_law_m", "_law_n"] spJoin := by
  refine F.ok scJoin (fun vs H Q E h => ?_) (fun cdv A outer s H vs Q E hr h => ?_)
  · obtain ⟨t, u, p, M, N, st, sd, rfl, _⟩ := h
    rfl
  · obtain ⟨t, u, p, M, N, st, sd, rfl, hM, hO, hN, hO2, h200, k⟩ := h
    have p2 := hO.pr.two
    obtain ⟨b1, b2, b3, b4, b5, b6, b7, b8, b9, b10, b11⟩ := B
    refine' ex_mk ?d ?_
    case d =>
      have nm := nm_of (CX := CX0) (P := P) (w := w) (K := K) (mg := mg) (base := base) (outer := outer) (H := H) (E := E) nmJoin hr
      have hu := nm.room.un
      refine' pss_cons (ps_par3 (i := 2) (j := 3) (l := 4) rfl nm.nd rfl rfl rfl (by decide) (by decide) (by decide) rfl rfl rfl (pa_cons ?e1 (pa_cons (pe_lst (pa_cons (pe_tup (pa_cons ?e2 (pa_cons ?e3 pa_nil))) pa_nil)) (pa_cons ?e4 pa_nil))) (by rfl))
        (pss_cons (ps_while PassesOwn.never ?wc (pss_cons ?w1 (pss_cons (ps_par (i := 7) (j := 8) rfl nm.nd rfl rfl (by decide) rfl rfl (pa_cons (n_ixT nm (n_ixL nm ?f1 ?f2 (fun _ _ => rfl)) pe_int (fun _ _ => rfl)) (pa_cons ?f3 pa_nil)) (by rfl))
          (pss_cons (n_for nm PassesOwn.never ?li ?lg (pss_cons ?c1 (pss_cons ?c2 (pss_one ?c3)))) (pss_one ?w4))))) (pss_one ?ret))
      case e1 => walk_at "peT"
      case e2 => walk_at "peT"
      case e3 => walk_at "peT"
      case e4 => walk_at "pe"
      case wc => walk_at "pt"
      case w1 => walk_at "ps"
      case f1 => walk_at "peT"
      case f2 => walk_at "pe"
      case f3 => walk_at "pe"
      case li => walk_at "pi"
      case lg => walk_at "pg"
      case c1 =>
        refine' ps_asg (pe_tup (pa_cons (n_ixT nm (n_ixT nm (n_ixL nm ?r1 ?r2 (fun _ _ => rfl)) pe_int (fun _ _ => rfl)) ?r3 (fun _ _ => rfl)) (pa_cons (n_ixT nm (n_ixT nm (n_ixL nm ?r4 ?r5 (fun _ _ => rfl)) pe_int (fun _ _ => rfl)) ?r6 (fun _ _ => rfl)) pa_nil))) ?r7
        case r1 => walk_at "peT"
        case r2 => walk_at "pe"
        case r3 => walk_at "pe"
        case r4 => walk_at "peT"
        case r5 => walk_at "pe"
        case r6 => walk_at "pe"
        case r7 => walk_at "pg"
      case c2 =>
        refine' ps_if (pt_cmpR (op_notInD (by omega)) ?r1 ?r2 (by with_unfolding_all rfl)) ?r3 pss_nil
        case r1 => walk_at "pe"
        case r2 => walk_at "pe"
        case r3 => walk_at "pss"
      case c3 =>
        refine' ps_expr (pe_bm PySem.F.plainAttrs_list PySem.F.slot_list_append PySem.F.type_list_append mt_append ?r1 (pa_cons (pe_bm PySem.F.plainAttrs_list PySem.F.slot_list_index PySem.F.type_list_index (mt_indexD (by omega)) ?r2 (pa_cons ?r3 pa_nil)) pa_nil))
        case r1 => walk_at "pe"
        case r2 => walk_at "pe"
        case r3 => walk_at "pe"
      case w4 =>
        refine' ps_expr (pe_bm PySem.F.plainAttrs_list PySem.F.slot_list_append PySem.F.type_list_append mt_append ?r1 (pa_cons (pe_tup (pa_cons (pe_op op_mod (n_t (x := "int") nm (by walk_at "as") call_int1 PyProof.Rows.boot_int ?bi (pa_cons (pe_op op_add ?r2 (n_ixT nm (n_ixL nm ?r3 ?r4 (fun _ _ => rfl)) pe_int (fun _ _ => rfl))) pa_nil)) ?r5) (pa_cons ?r6 pa_nil))) pa_nil))
        case r1 => walk_at "pe"
        case bi => walk_at "mem"
        case r2 => walk_at "pe"
        case r3 => walk_at "peT"
        case r4 => walk_at "pe"
        case r5 => walk_at "pe"
        case r6 => walk_at "pe"
      case ret => walk_at "ps"
    obtain ⟨mr, mxs, hm1, hm2, hm3⟩ := hM
    obtain ⟨nr, nxs, hn1, hn2, hn3⟩ := hN
    refine ⟨_, rfl, t, _, 0, _, rfl, rfl, SqT.of hm1, rfl, ?_⟩
    refine ⟨_, rfl, t, _, 2, _, rfl, rfl, SqT.of hm1, rfl, _, rfl, u, _, 2, _, rfl, rfl, SqT.of hn1, rfl, ?_⟩
    refine ⟨by show 2 ≤ sizeLine; decide, fun k0 hk0 => ?_⟩
    refine ⟨by show 1 ≤ sizeLine; decide, fun q hq0 => ?_⟩
    refine ⟨by show 0 ≤ sizeLine; decide, fun r hr0 => ?_⟩
    refine ⟨_, _, _, rfl, ?_⟩
    have hP := hO.pr
    have s0 : Same H (upd (upd (upd H k0 (.tup [.int st, .int sd])) q (.lst [.ref k0])) r (.lst [])) := same_add (same_add (same_new hk0) hq0) hr0
    have hqN : H q = none := Same.free (same_new hk0) hq0
    have hrN : H r = none := Same.free (same_add (same_new hk0) hq0) hr0
    have nqr : q ≠ r := ne_of_none upd_same hr0
    have in0 : InK M N (st, sd) := ⟨hO.st0, hO.st1, hO2.st0, hO2.st1⟩
    refine ⟨fun m σ H' => ∃ (j : Nat) (v5 v6 v7 v8 v9 v10 : Option V) (xs ys : List V), m + j = M.length * N.length ∧ σ = [some (.ref t), some (.ref u), some (.int p), some (.ref q), some (.ref r), v5, v6, v7, v8, v9, v10] ∧ Same H H' ∧
      H' q = some (.lst xs) ∧ KysAt H' xs (keyJ p M N (st, sd) j) ∧ H' r = some (.lst ys) ∧ StsAt H' ys (outJ p M N (st, sd) j) ∧ ∀ i, i < j → i < (keyJ p M N (st, sd) i).length,
      ⟨_, 0, none, none, none, none, none, none, [.ref k0], [], rfl, rfl, s0, ?_, ?_, upd_same, ⟨rfl, fun i x z e => by simp at e⟩, fun i hi => absurd hi (Nat.not_lt_zero i)⟩, ?_⟩
    · rw [upd_ne nqr, upd_same]
    · refine ⟨rfl, fun i x c e1 e2 => ?_⟩
      match i, e1, e2 with
      | 0, e1, e2 =>
        obtain rfl := Option.some.inj e1
        obtain rfl := Option.some.inj e2
        have a1 : Same (upd H k0 (.tup [.int st, .int sd])) (upd (upd (upd H k0 (.tup [.int st, .int sd])) q (.lst [.ref k0])) r (.lst [])) := same_add (same_new hq0) hr0
        exact ⟨k0, rfl, a1 _ _ upd_same⟩
      | i + 1, e1, e2 => exact absurd e1 (by simp)
    rintro m σ H' ⟨j, v5, v6, v7, v8, v9, v10, xs, ys, hm, rfl, s1, hq, hks, hr, hrs, hgo⟩
    have hjl := done_len hP hO.ok hO2.ok in0 hgo
    have lx := hks.1
    have ly := hrs.1
    rw [outJ_len] at ly
    refine ⟨_, rfl, r, _, rfl, .inl (SqL.of hr), _, rfl, q, _, rfl, .inl (SqL.of hq), _, _, rfl, rfl, _, rfl, ?_⟩
    by_cases c : (ys.length : Int) < (xs.length : Int)
    · refine Eq.mpr (if_pos (decide_eq_true c)) ?_
      have hj : j < (keyJ p M N (st, sd) j).length := by omega
      have hgo2 : ∀ i, i < j + 1 → i < (keyJ p M N (st, sd) i).length := fun i hi => by
        by_cases e : i = j
        · rw [e]; exact hj
        · exact hgo i (by omega)
      have hjl2 := done_len hP hO.ok hO2.ok in0 hgo2
      obtain ⟨pre, epre⟩ := rowK_pre (p := p) (M := M) (N := N) ((keyJ p M N (st, sd) j).getD j (0, 0)) (keyJ p M N (st, sd) j) p.toNat
      refine ⟨fun σ' H2 => ∃ (v5 v6 v7 v8 v9 v10 : Option V) (xs ys : List V), σ' = [some (.ref t), some (.ref u), some (.int p), some (.ref q), some (.ref r), v5, v6, v7, v8, v9, v10] ∧ Same H H2 ∧
        H2 q = some (.lst xs) ∧ KysAt H2 xs (keyJ p M N (st, sd) (j + 1)) ∧ H2 r = some (.lst ys) ∧ StsAt H2 ys (outJ p M N (st, sd) (j + 1)),
        fun σ' H2 ⟨v5, v6, v7, v8, v9, v10, xs, ys, e, z1, z2, z3, z4, z5⟩ => ⟨m - 1, by omega, j + 1, v5, v6, v7, v8, v9, v10, xs, ys, by omega, e, z1, z2, z3, z4, z5, hgo2⟩, ?_⟩
      have hxj : j < xs.length := by omega
      have ek : (keyJ p M N (st, sd) j)[j]? = some ((keyJ p M N (st, sd) j).getD j (0, 0)) := by rw [List.getD_eq_getElem?_getD, List.getElem?_eq_getElem hj]; rfl
      have hin := keyJ_in hP hO.ok hO2.ok in0 j hgo _ (getD_mem hj)
      generalize eK : (keyJ p M N (st, sd) j).getD j (0, 0) = key at *
      obtain ⟨ka, eka, hka⟩ := hks.2 j _ _ (List.getElem?_eq_getElem hxj) ek
      have eat : atI xs (ys.length : Int) = some (.ref ka) := by rw [ly]; exact atI_nat (by rw [List.getElem?_eq_getElem hxj, eka])
      refine ⟨_, rfl, _, rfl, r, _, rfl, .inl (SqL.of hr), q, xs, _, _, rfl, rfl, SqL.of hq, eat, ka, _, rfl, SqT.of hka, rfl, _, _, rfl, _, _, rfl, rfl, ?_⟩
      obtain ⟨as, ag, ea1, ea2, ea3⟩ := (hm3.same s1).get hin.1 hin.2.1
      obtain ⟨bs, bg, eb1, eb2, eb3⟩ := (hn3.same s1).get hin.2.2.1 hin.2.2.2
      refine ⟨_, rfl, t, _, 1, _, rfl, rfl, SqT.of (s1 _ _ hm1), rfl, _, rfl, mr, mxs, _, _, rfl, rfl, SqL.of (s1 _ _ hm2), ea1, as, _, 0, _, rfl, rfl, SqT.of ea2, rfl, ?_⟩
      refine ⟨by show 0 ≤ sizeLine; decide, fun g hg0 => ⟨_, _, rfl, ?_⟩⟩
      have ngq : q ≠ g := ne_of_none hq hg0
      have ngr : r ≠ g := ne_of_none hr hg0
      have sg : Same H' (upd H' g (.lst [])) := same_new hg0
      have hgN : H g = none := Same.free s1 hg0
      have kin := keyJ_in hP hO.ok hO2.ok in0 j hgo
      have hlen : ∀ x : Nat, (x : Int) ≤ p → (rowK p M N key (keyJ p M N (st, sd) j) x).length ≤ 200 := fun x hx =>
        Nat.le_trans (inK_len (rowK_nodup key (keyJ_nodup (st, sd) j) x) (rowK_in hP hO.ok hO2.ok kin hin x hx)) h200
      have eJ : keyJ p M N (st, sd) (j + 1) = rowK p M N key (keyJ p M N (st, sd) j) p.toNat := by rw [keyJ, eK]
      have eO : outJ p M N (st, sd) (j + 1) = outJ p M N (st, sd) j ++ [outS p M N key (keyJ p M N (st, sd) j)] := by rw [outJ, eK]
      have mm := many_at hO.ok hin.1 hin.2.1
      have mn := many_at hO2.ok hin.2.2.1 hin.2.2.2
      refine ⟨_, rfl, _, rfl, by omega, by omega, for_range (lo := 0) (n := p.toNat) (fun x σ H2 => ∃ (v9 v10 : Option V) (zs : List V), σ = [some (.ref t), some (.ref u), some (.int p), some (.ref q), some (.ref r), some (.int key.1), some (.int key.2), some (.int (turnM M key.1)), some (.ref g), v9, v10] ∧
        Same H H2 ∧ H2 q = some (.lst zs) ∧ KysAt H2 zs (rowK p M N key (keyJ p M N (st, sd) j) x) ∧ H2 r = some (.lst ys) ∧ StsAt H2 ys (outJ p M N (st, sd) j) ∧ H2 g = some (.lst ((goalsK p M N key (keyJ p M N (st, sd) j) x).map V.int)))
        ⟨v9, v10, xs, rfl, Same.trans s1 sg, by rw [upd_ne ngq]; exact hq, hks.same sg, by rw [upd_ne ngr]; exact hr, hrs.same sg, upd_same⟩ ?_ ?_⟩
      · rintro x σ H2 hx ⟨w9, w10, zs, rfl, s2, hq2, hk2, hr2, hs2, hg2⟩
        have ez : (0 : Int) + (x : Int) = (x : Int) := by omega
        rw [ez]
        obtain ⟨as, ag, ea1, ea2, ea3⟩ := (hm3.same s2).get hin.1 hin.2.1
        obtain ⟨bs, bg, eb1, eb2, eb3⟩ := (hn3.same s2).get hin.2.2.1 hin.2.2.2
        have md := md_in hP ((x : Int) + turnM M key.1)
        have ax := at_ints (l := (M.getD key.1.toNat (0, [])).2) (d := (x : Int)) (by omega) (by omega)
        have bx := at_ints (l := (N.getD key.2.toNat (0, [])).2) (d := ((x : Int) + turnM M key.1) % p) md.1 (by omega)
        refine ⟨_, rfl, t, _, 1, _, rfl, rfl, SqT.of (s2 _ _ hm1), rfl, _, rfl, mr, mxs, _, _, rfl, rfl, SqL.of (s2 _ _ hm2), ea1, as, _, 1, _, rfl, rfl, SqT.of ea2, rfl, _, rfl, ag, _, _, _, rfl, rfl, SqT.of ea3, ax, ?_⟩
        refine ⟨_, rfl, u, _, 1, _, rfl, rfl, SqT.of (s2 _ _ hn1), rfl, _, rfl, nr, nxs, _, _, rfl, rfl, SqL.of (s2 _ _ hn2), eb1, bs, _, 1, _, rfl, rfl, SqT.of eb2, rfl, _, rfl, _, rfl, _, _, rfl, rfl, .inl ⟨_, rfl, ?_⟩⟩
        refine ⟨_, rfl, _, _, rfl, rfl, (by show (0 : Int) < p; omega), bg, _, _, _, rfl, rfl, SqT.of eb3, bx, ?_⟩
        refine ⟨by show 2 ≤ sizeLine; decide, fun pr hpr => ?_⟩
        have s23 : Same H2 (upd H2 pr (.tup [.int (goM M key.1 (x : Int)), .int (goM N key.2 (((x : Int) + turnM M key.1) % p))])) := same_new hpr
        dsimp only [gName]
        refine cut (Pv := fun σ' H4 => ∃ zs' : List V, σ' = [some (.ref t), some (.ref u), some (.int p), some (.ref q), some (.ref r), some (.int key.1), some (.int key.2), some (.int (turnM M key.1)), some (.ref g), some (.int (x : Int)), some (.ref pr)] ∧
          Same H H4 ∧ H4 q = some (.lst zs') ∧ KysAt H4 zs' (rowK p M N key (keyJ p M N (st, sd) j) (x + 1)) ∧ H4 r = some (.lst ys) ∧ StsAt H4 ys (outJ p M N (st, sd) j) ∧ H4 g = some (.lst ((goalsK p M N key (keyJ p M N (st, sd) j) x).map V.int)) ∧ KyAt H4 (.ref pr) (nxtP p M N key x)) ?_ ?_
        · rintro σ' H4 ⟨zs', rfl, s4, hq4, hk4, hr4, hs4, hg4, hp4⟩
          refine ⟨_, rfl, .inl ⟨rfl, _, SqL.of hg4⟩, _, rfl, .inl ⟨rfl, _, SqL.of hq4⟩, _, rfl, ?_⟩
          dsimp only [tNil]
          refine index_keys hp4 hq4 hk4 (addK_mem _ _) ⟨g, _, _, rfl, rfl, hg4, ?_, ?_⟩
          · rw [List.length_map, goalsK_len]
            exact small1000 (by omega)
          · refine ⟨_, _, zs', rfl, same_put s4 hgN, by rw [upd_ne ngq]; exact hq4, hk4.lst hg4, by rw [upd_ne ngr]; exact hr4, hs4.lst hg4, ?_⟩
            rw [upd_same, goalsK, List.map_append]; rfl
        · intro Nn hNn
          have hq3 := s23 _ _ hq2
          have hk3 := hk2.same s23
          have hp3 : KyAt (upd H2 pr (.tup [.int (goM M key.1 (x : Int)), .int (goM N key.2 (((x : Int) + turnM M key.1) % p))])) (.ref pr) (nxtP p M N key x) := ⟨pr, rfl, upd_same⟩
          refine ⟨_, rfl, _, rfl, notIn_keys hp3 hq3 hk3 ⟨_, rfl, ?_⟩⟩
          by_cases hmem : nxtP p M N key x ∈ rowK p M N key (keyJ p M N (st, sd) j) x
          · refine Eq.mpr (if_neg (by simp [hmem])) ?_
            have e1 : rowK p M N key (keyJ p M N (st, sd) j) (x + 1) = rowK p M N key (keyJ p M N (st, sd) j) x := by rw [rowK, addK, if_pos hmem]
            refine hNn _ _ ⟨zs, rfl, Same.trans s2 s23, hq3, by rw [e1]; exact hk3, s23 _ _ hr2, hs2.same s23, s23 _ _ hg2, hp3⟩
          · refine Eq.mpr (if_pos (by simp [hmem])) ?_
            have e1 : rowK p M N key (keyJ p M N (st, sd) j) (x + 1) = rowK p M N key (keyJ p M N (st, sd) j) x ++ [nxtP p M N key x] := by rw [rowK, addK, if_neg hmem]
            refine ⟨_, rfl, .inl ⟨rfl, _, SqL.of hq3⟩, _, rfl, q, _, _, rfl, rfl, hq3, ?_, ?_⟩
            · rw [hk2.1]
              exact small1000 (by have := hlen x (by omega); omega)
            · refine hNn _ _ ⟨zs ++ [.ref pr], rfl, same_put (Same.trans s2 s23) hqN, upd_same, by rw [e1]; exact (hk3.snoc hp3).lst hq3, ?_, (hs2.same s23).lst hq3, ?_, hp3.lst hq3⟩
              · rw [upd_ne nqr.symm]; exact s23 _ _ hr2
              · rw [upd_ne ngq.symm]; exact s23 _ _ hg2
      · rintro σ H2 ⟨w9, w10, zs, rfl, s2, hq2, hk2, hr2, hs2, hg2⟩
        obtain ⟨bs, bg, eb1, eb2, eb3⟩ := (hn3.same s2).get hin.2.2.1 hin.2.2.2
        refine ⟨_, rfl, .inl ⟨rfl, _, SqL.of hr2⟩, ?_⟩
        refine ⟨_, rfl, _, rfl, u, _, 1, _, rfl, rfl, SqT.of (s2 _ _ hn1), rfl, _, rfl, nr, nxs, _, _, rfl, rfl, SqL.of (s2 _ _ hn2), eb1, bs, _, 0, _, rfl, rfl, SqT.of eb2, rfl, _, _, rfl, rfl, .inl ⟨_, rfl, ?_⟩⟩
        refine ⟨_, rfl, _, _, rfl, rfl, (by show (0 : Int) < p; omega), ?_⟩
        refine ⟨_, rfl, g, _, rfl, .inl ⟨SqL.of hg2, fun l hl => ?_⟩⟩
        refine ⟨by show 2 ≤ sizeLine; decide, fun e he => ?_⟩
        have s25 : Same H2 (upd (upd H2 l (.tup ((goalsK p M N key (keyJ p M N (st, sd) j) p.toNat).map V.int))) e (.tup [.int ((turnM M key.1 + turnM N key.2) % p), .ref l])) := same_add (same_new hl) he
        refine ⟨r, _, _, rfl, rfl, s25 _ _ hr2, ?_, ?_⟩
        · rw [ly]
          exact small1000 (by omega)
        · have hS : StAt (upd (upd H2 l (.tup ((goalsK p M N key (keyJ p M N (st, sd) j) p.toNat).map V.int))) e (.tup [.int ((turnM M key.1 + turnM N key.2) % p), .ref l])) (.ref e) (outS p M N key (keyJ p M N (st, sd) j)) :=
            ⟨e, l, rfl, upd_same, by rw [upd_ne (ne_of_none upd_same he)]; exact upd_same⟩
          refine ⟨_, _, _, _, _, _, zs, ys ++ [.ref e], rfl, same_put (Same.trans s2 s25) hrN, ?_, ?_, upd_same, ?_⟩
          · rw [upd_ne nqr]; exact s25 _ _ hq2
          · rw [eJ]; exact (hk2.same s25).lst (s25 _ _ hr2)
          · rw [eO]; exact ((hs2.same s25).snoc hS).lst (s25 _ _ hr2)
    · refine Eq.mpr (if_neg (by simpa using c)) ?_
      have D : Done p M N (st, sd) j := ⟨hgo, by
        have h1 : (keyJ p M N (st, sd) j).length ≤ j := by omega
        rcases Nat.lt_or_ge (keyJ p M N (st, sd) j).length j with h2 | h2
        · match j, h2 with
          | j + 1, h2 =>
            obtain ⟨pre, e⟩ := rowK_pre (p := p) (M := M) (N := N) ((keyJ p M N (st, sd) j).getD j (0, 0)) (keyJ p M N (st, sd) j) p.toNat
            have h3 := hgo j (Nat.lt_succ_self j)
            rw [keyJ, e, List.length_append] at h2
            omega
        · omega⟩
      refine ⟨_, rfl, _, rfl, by show 3 ≤ sizeLine; decide, fun y hy => ?_⟩
      refine k _ y j (same_add s1 hy) D ⟨r, ys, upd_same, ?_, hrs.same (same_new hy)⟩
      rw [upd_ne (ne_of_none hr hy)]; exact hr
end

abbrev sLen : Stmt := inClass (top 60) 17
def spLen (C : Addr) : Sp := fun vs H Q _ => ∃ (x : Addr) (p : Int) (M : Mach) (st : Int), vs = [.ref x] ∧ TurAt C H x p M st ∧ Q (.int (M.length : Nat)) H
section
variable {P : Program} {w : World} {K : PySem.W.Frag} {mg : Str → Option Value} {base : Heap} {aP : Addr} {tD : Tok} {C : Addr} {mc u : Value}
theorem scLen : FnScope ["self"] ["self"] (defScope sLen) := ⟨rfl, rfl, rfl, by decide +kernel, rfl, by decide +kernel, by decide +kernel⟩
theorem nmLen : nmB ["self"] [("self", 0)] ["len"] (defScope sLen) = true := by decide +kernel
theorem ok_len {f : Addr} {fd : FuncData} (F : Fun K "__len__" "Turner.__len__" sLen f fd) (B : Bn mg) (T : Tc K C) : FnOk P w K mg base CX0 1 f fd ["self"] (spLen C) := by
  refine F.ok scLen (fun vs H Q E h => ?_) (fun cdv A outer s H vs Q E hr h => ?_)
  · obtain ⟨x, p, M, st, rfl, _⟩ := h
    rfl
  · obtain ⟨x, p, M, st, rfl, hT, k⟩ := h
    obtain ⟨b1, b2, b3, b4, b5, b6, b7, b8, b9, b10, b11⟩ := B
    refine' ex_mk ?d ?_
    case d =>
      have nm := nm_of (CX := CX0) (P := P) (w := w) (K := K) (mg := mg) (base := base) (outer := outer) (H := H) (E := E) nmLen hr
      walk_at "pss"
    obtain ⟨dx, t, xs, h1, h2, h3⟩ := hT
    refine ⟨_, rfl, x, C, dx, _, _, rfl, h1, T.cl, T.nS, tf_s _ _ _, t, xs, rfl, .inr (SqT.of h2), ?_⟩
    rw [h3.1]
    exact k
end

abbrev sAre : Stmt := top 30
abbrev sChC : Stmt := top 31
abbrev sFC : Stmt := top 32
/-- counts as they stand, a list or a tuple -/
def CsAt (H : Hp) (a : Addr) (cs : List Int) : Prop := H a = some (.lst (cs.map V.int)) ∨ H a = some (.tup (cs.map V.int))
theorem CsAt.same {H H' : Hp} {a : Addr} {cs : List Int} (h : CsAt H a cs) (e : Same H H') : CsAt H' a cs := by
  rcases h with h | h
  · exact .inl (e _ _ h)
  · exact .inr (e _ _ h)
def spAre (C : Addr) : Sp := fun vs H Q _ => ∃ (x a : Addr) (p : Int) (M : Mach) (st : Int) (cs : List Int), vs = [.ref x, .ref a] ∧ TurAt C H x p M st ∧ OkT p M st ∧ CsAt H a cs ∧ CsOk p M cs ∧ ∀ H', Same H H' → Q (.bl true) H'
def spChC (C : Addr) : Sp := fun vs H Q _ => ∃ (x a : Addr) (p : Int) (M : Mach) (st : Int) (cs : List Int), vs = [.ref x, .ref a] ∧ TurAt C H x p M st ∧ OkT p M st ∧ CsAt H a cs ∧ CsOk p M cs ∧ ∀ H', Same H H' → Q .non H'
def spFC (C : Addr) : Sp := fun vs H Q _ => ∃ (x : Addr) (p : Int) (M : Mach) (st : Int), vs = [.ref x] ∧ TurAt C H x p M st ∧ OkT p M st ∧ ∀ H' r, Same H H' → H r = none → H' r = some (.lst ((firstC M st).map V.int)) → Q (.ref r) H'
theorem TurAt.ins {C : Addr} {H : Hp} {x : Addr} {p : Int} {M : Mach} {st : Int} (h : TurAt C H x p M st) : ∃ dx fs, H x = some (.ins C dx fs) := by
  obtain ⟨dx, t, xs, h1, _⟩ := h
  exact ⟨dx, _, h1⟩
/-- x.prime, x.start, len(x) of a turner, read -/
theorem prm_q {K : PySem.W.Frag} {C : Addr} {H : Hp} {x : Addr} {p : Int} {M : Mach} {st : Int} {Q : VK} (h : TurAt C H x p M st) (q : Q (.int p) H) : ∃ a dx fs, V.ref x = .ref a ∧ H a = some (.ins C dx fs) ∧ getSp C "_prime" ([.ref a] ++ []) H Q E0 := by
  obtain ⟨dx, t, xs, h1, _⟩ := h
  exact ⟨x, dx, _, rfl, h1, x, dx, _, _, rfl, h1, tf_p _ _ _, q⟩
theorem stt_q {K : PySem.W.Frag} {C : Addr} {H : Hp} {x : Addr} {p : Int} {M : Mach} {st : Int} {Q : VK} (h : TurAt C H x p M st) (q : Q (.int st) H) : ∃ a dx fs, V.ref x = .ref a ∧ H a = some (.ins C dx fs) ∧ getSp C "_start" ([.ref a] ++ []) H Q E0 := by
  obtain ⟨dx, t, xs, h1, _⟩ := h
  exact ⟨x, dx, _, rfl, h1, x, dx, _, _, rfl, h1, tf_t _ _ _, q⟩
theorem len_q {C : Addr} {H : Hp} {x : Addr} {p : Int} {M : Mach} {st : Int} {Q : VK} (h : TurAt C H x p M st) (hO : OkT p M st) (q : Q (.int (M.length : Nat)) H) : rLenO C (spLen C) [.ref x] H Q := by
  have hl := hO.le
  obtain ⟨dx, fs, h1⟩ := h.ins
  exact ⟨x, dx, fs, rfl, h1, x, p, M, st, rfl, h, _, rfl, by omega, by omega, q⟩
theorem ints_at {ds : List Int} {j : Nat} {x : V} (h : (ds.map V.int)[j]? = some x) : ∃ d, ds[j]? = some d ∧ x = V.int d := by
  rw [List.getElem?_map] at h
  cases e : ds[j]? with
  | none => rw [e] at h; cases h
  | some u => rw [e] at h; exact ⟨u, rfl, (Option.some.inj h).symm⟩
theorem rep_at {n j : Nat} {b : Bool} {x : V} (h : ((List.replicate n b).map V.bl)[j]? = some x) : x = V.bl b := by
  rw [List.getElem?_map, List.getElem?_replicate] at h
  split at h
  · exact (Option.some.inj h).symm
  · cases h
section
variable {P : Program} {w : World} {K : PySem.W.Frag} {mg : Str → Option Value} {base : Heap} {aP : Addr} {tD : Tok} {C : Addr} {mc u : Value}
theorem scAre : FnScope ["turner", "value", "count"] ["turner", "value"] (defScope sAre) := ⟨rfl, rfl, rfl, by decide +kernel, rfl, by decide +kernel, by decide +kernel⟩
theorem nmAre : nmB ["turner", "value", "count"] [("turner", 0), ("value", 1)] ["isinstance", "list", "tuple", "len", "all"] (defScope sAre) = true := by decide +kernel
theorem ok_are {f : Addr} {fd : FuncData} (F : Fun K "are_counts" "are_counts" sAre f fd) (B : Bn mg) (T : Tc K C) (D : Df P w K mg base 2 "is_below" ["value", "bound"] (spBel K)) (E4 : Pf P w K mg base 1 C "prime" ["self"] (getSp C "_prime")) (O2 : Ol P w K mg base 1 C ["self"] (spLen C)) : FnOk P w K mg base CX0 3 f fd ["turner", "value"] (spAre C) := by
  refine F.ok scAre (fun vs H Q E h => ?_) (fun cdv A outer s H vs Q E hr h => ?_)
  · obtain ⟨x, a, p, M, st, cs, rfl, _⟩ := h
    rfl
  · obtain ⟨x, a, p, M, st, cs, rfl, hT, hO, ha, hc, k⟩ := h
    have hl := hO.le
    have hcl := T.cl
    obtain ⟨b1, b2, b3, b4, b5, b6, b7, b8, b9, b10, b11⟩ := B
    refine' ex_mk ?d ?_
    case d =>
      have nm := nm_of (CX := CX0) (P := P) (w := w) (K := K) (mg := mg) (base := base) (outer := outer) (H := H) (E := E) nmAre hr
      refine' pss_cons (ps_if (PW.pt (pw_or ?c1 (pw_or1 (pt_cmpR op_ne (n_len nm (by walk_at "as") ?g1 (pa_cons ?c2 pa_nil)) (n_lenO nm (by walk_at "as") ?g2 O2 (by decide) (pa_cons ?c3 pa_nil)) (nomark _))))) (pss_one (ps_ret pe_bl)) pss_nil)
        (pss_one (ps_ret (n_b (x := "all") nm (by walk_at "as") (cr_all nm.calm) PyProof.Rows.boot_all ?bg (pa_cons ?lc pa_nil))))
      case c1 => walk_at "pt"
      case g1 => walk_at "mem"
      case g2 => walk_at "mem"
      case c2 => walk_at "pe"
      case c3 => walk_at "pe"
      case bg => walk_at "mem"
      case lc =>
        refine' n_lc (own := [("count", 2)]) (g := gName 2) (NS' := [("turner", 0), ("count", 2)]) (WS' := [("count", 2)]) (G' := ["is_below"]) (N := ["turner", "value", "count"]) (scD := defScope sAre) nm rfl rfl (by decide +kernel) (by decide +kernel) (pi_or (pi_list ?li) (pi_tup ?li2)) (fun X' nm2 => ?lg) (fun X' nm2 => n_d nm2 D (by decide) ?e0 (pa_cons ?e1 (pa_cons (n_p nm2 hcl E4 (by decide) ?e2) pa_nil)))
        case li => walk_at "pe"
        case li2 => walk_at "pe"
        case lg => walk_at "pg"
        case e0 => walk_at "mem"
        case e1 => walk_at "pe"
        case e2 => walk_at "pe"
    have hll : (cs.map V.int).length = cs.length := List.length_map _
    refine ⟨_, rfl, by show 2 ≤ sizeLine; decide, fun q hq => ?_⟩
    have s0 : Same H (upd H q (.tup [.ty "list", .ty "tuple"])) := same_new hq
    generalize eH0 : upd H q (.tup [.ty "list", .ty "tuple"]) = H0 at *
    have hq0 : H0 q = some (.tup [.ty "list", .ty "tuple"]) := by rw [← eH0]; exact upd_same
    have hT0 := hT.same s0
    have lenne : decide (V.int ((cs.map V.int).length : Int) = V.int (M.length : Nat)) = true := decide_eq_true (by rw [hll, hc.len])
    rcases ha.same s0 with ha | ha
    · refine ⟨_, q, _, _, _, _, rfl, hq0, .cons (.ty "list") (.cons (.ty "tuple") .nil), ty_l (SqL.of ha), kitAny_cons (kit_ty (by decide +kernel : kitB "list" "list" = some true)) (fun z => nomatch z) (fun _ => rfl), _, rfl, ?_⟩
      refine iteF ?_
      refine ⟨_, rfl, a, _, rfl, .inl (SqL.of ha), _, rfl, ?_⟩
      dsimp only [tNil]
      refine len_q hT0 hO ?_
      refine ⟨rfl, _, rfl, ?_⟩
      rw [lenne]
      refine iteF ?_
      refine .inl ⟨_, rfl, a, rfl, ⟨_, SqL.of ha⟩, fun Dl hD => ?_⟩
      refine lc_seq (fs := (List.replicate cs.length true).map V.bl) (sj_L fun H1 s1 => SqL.of (s1 _ _ ha)) hD (by simp) (small1000 (by rw [hll, hc.len]; omega)) ?_ ?_ gm_name
      · intro j x' z H1 Qk hx hz s1 kk
        obtain ⟨d, hd, rfl⟩ := ints_at hx
        obtain rfl := rep_at hz
        refine ⟨rfl, _, rfl, _, rfl, prm_q (K := K) (hT0.same s1) ⟨_, _, _, rfl, kd_int d, ?_⟩⟩
        rw [belowV_in (hc.val d (List.mem_of_getElem? hd))]
        exact kk _ (fun _ _ e => e)
      · intro H1 s1 hDl
        refine ⟨Dl, _, rfl, SqL.of hDl, ?_⟩
        rw [all_rep]
        exact k _ (Same.trans s0 s1)
    · refine ⟨_, q, _, _, _, _, rfl, hq0, .cons (.ty "list") (.cons (.ty "tuple") .nil), ty_t (SqT.of ha), (kitAny_cons (kit_ty (by decide +kernel : kitB "tuple" "list" = some false)) (fun _ => kitAny_cons (kit_ty (by decide +kernel : kitB "tuple" "tuple" = some true)) (fun z => nomatch z) (fun _ => rfl)) (fun z => nomatch z)), _, rfl, ?_⟩
      refine iteF ?_
      refine ⟨_, rfl, a, _, rfl, .inr (SqT.of ha), _, rfl, ?_⟩
      dsimp only [tNil]
      refine len_q hT0 hO ?_
      refine ⟨rfl, _, rfl, ?_⟩
      rw [lenne]
      refine iteF ?_
      refine .inr ⟨_, rfl, a, rfl, ⟨_, SqT.of ha⟩, fun Dl hD => ?_⟩
      refine lc_seq (fs := (List.replicate cs.length true).map V.bl) (sj_T fun H1 s1 => SqT.of (s1 _ _ ha)) hD (by simp) (small1000 (by rw [hll, hc.len]; omega)) ?_ ?_ gm_name
      · intro j x' z H1 Qk hx hz s1 kk
        obtain ⟨d, hd, rfl⟩ := ints_at hx
        obtain rfl := rep_at hz
        refine ⟨rfl, _, rfl, _, rfl, prm_q (K := K) (hT0.same s1) ⟨_, _, _, rfl, kd_int d, ?_⟩⟩
        rw [belowV_in (hc.val d (List.mem_of_getElem? hd))]
        exact kk _ (fun _ _ e => e)
      · intro H1 s1 hDl
        refine ⟨Dl, _, rfl, SqL.of hDl, ?_⟩
        rw [all_rep]
        exact k _ (Same.trans s0 s1)
theorem scChC : FnScope ["turner", "counts"] ["turner", "counts"] (defScope sChC) := ⟨rfl, rfl, rfl, by decide +kernel, rfl, by decide +kernel, by decide +kernel⟩
theorem nmChC : nmB ["turner", "counts"] [("turner", 0), ("counts", 1)] ["are_counts"] (defScope sChC) = true := by decide +kernel
theorem ok_chc {f : Addr} {fd : FuncData} (F : Fun K "_check_counts" "_check_counts" sChC f fd) (D : Df P w K mg base 3 "are_counts" ["turner", "value"] (spAre C)) : FnOk P w K mg base CX0 4 f fd ["turner", "counts"] (spChC C) := by
  refine F.ok scChC (fun vs H Q E h => ?_) (fun cdv A outer s H vs Q E hr h => ?_)
  · obtain ⟨x, a, p, M, st, cs, rfl, _⟩ := h
    rfl
  · obtain ⟨x, a, p, M, st, cs, rfl, hT, hO, ha, hc, k⟩ := h
    refine' ex_mk ?d ?_
    case d =>
      have nm := nm_of (CX := CX0) (P := P) (w := w) (K := K) (mg := mg) (base := base) (outer := outer) (H := H) (E := E) nmChC hr
      walk_at "pss"
    refine ⟨_, rfl, _, rfl, x, a, p, M, st, cs, rfl, hT, hO, ha, hc, fun H1 s1 => ⟨_, rfl, ?_⟩⟩
    refine iteF ?_
    exact k H1 s1
theorem scFC : FnScope ["turner", "state"] ["turner"] (defScope sFC) := ⟨rfl, rfl, rfl, by decide +kernel, rfl, by decide +kernel, by decide +kernel⟩
theorem nmFC : nmB ["turner", "state"] [("turner", 0)] ["range", "len"] (defScope sFC) = true := by decide +kernel
theorem ok_fc {f : Addr} {fd : FuncData} (F : Fun K "first_counts" "first_counts" sFC f fd) (B : Bn mg) (T : Tc K C) (E5 : Pf P w K mg base 1 C "start" ["self"] (getSp C "_start")) (O2 : Ol P w K mg base 1 C ["self"] (spLen C)) : FnOk P w K mg base CX0 3 f fd ["turner"] (spFC C) := by
  refine F.ok scFC (fun vs H Q E h => ?_) (fun cdv A outer s H vs Q E hr h => ?_)
  · obtain ⟨x, p, M, st, rfl, _⟩ := h
    rfl
  · obtain ⟨x, p, M, st, rfl, hT, hO, k⟩ := h
    have hl := hO.le
    have hcl := T.cl
    obtain ⟨b1, b2, b3, b4, b5, b6, b7, b8, b9, b10, b11⟩ := B
    refine' ex_mk ?d ?_
    case d =>
      have nm := nm_of (CX := CX0) (P := P) (w := w) (K := K) (mg := mg) (base := base) (outer := outer) (H := H) (E := E) nmFC hr
      refine' pss_one (ps_ret (n_lc (own := [("state", 1)]) (g := gName 1) (NS' := [("turner", 0), ("state", 1)]) (WS' := [("state", 1)]) (G' := []) (N := ["turner", "state"]) (scD := defScope sFC) nm rfl rfl (by decide +kernel) (by decide +kernel) (n_rng nm (by walk_at "as") ?rg (pa_cons (n_lenO nm (by walk_at "as") ?lg0 O2 (by decide) (pa_cons ?l1 pa_nil)) pa_nil)) (fun X' nm2 => ?lg) (fun X' nm2 => pe_ifExp (pt_cmpR op_eq ?e1 (n_p nm2 hcl E5 (by decide) ?e2) (nomark _)) pe_int pe_int)))
      case rg => walk_at "mem"
      case lg0 => walk_at "mem"
      case l1 => walk_at "pe"
      case lg => walk_at "pg"
      case e1 => walk_at "pe"
      case e2 => walk_at "pe"
    refine ⟨_, rfl, ?_⟩
    dsimp only [tNil]
    refine len_q hT hO ?_
    refine ⟨_, rfl, by omega, by omega, fun Dl hD => ?_⟩
    refine lc_range (lo := 0) (n := ((M.length : Nat) : Int).toNat) (fun i H' => Same H H' ∧ H' Dl = some (.lst (((List.range i).map fun (i : Nat) => if (i : Int) = st then (1 : Int) else 0).map V.int))) ⟨same_new hD, upd_same⟩ ?_ ?_
    · rintro i H' hi ⟨s1, hDl⟩
      refine ⟨rfl, yes_ ?_⟩
      refine ⟨_, rfl, _, rfl, stt_q (K := K) (hT.same s1) ⟨rfl, _, rfl, ?_⟩⟩
      have e0 : (0 : Int) + (i : Int) = (i : Int) := by omega
      rw [e0]
      have fin : ∀ z : Int, z = (if (i : Int) = st then (1 : Int) else 0) → ∃ acc, H' Dl = some (.lst acc) ∧ acc.length < sizeLine ∧ Same H (upd H' Dl (.lst (acc ++ [V.int z]))) ∧ upd H' Dl (.lst (acc ++ [V.int z])) Dl = some (.lst (((List.range (i + 1)).map fun (i : Nat) => if (i : Int) = st then (1 : Int) else 0).map V.int)) := fun z ez => by
        refine ⟨_, hDl, ?_, same_put s1 hD, ?_⟩
        · rw [List.length_map, List.length_map, List.length_range]; exact small1000 (by omega)
        · rw [upd_same, List.range_succ, List.map_append, List.map_append, ez]; rfl
      by_cases c : (i : Int) = st
      · rw [decide_eq_true (by rw [c])]
        refine iteT ?_
        exact fin 1 (by rw [if_pos c])
      · rw [decide_eq_false (fun z => c (by injection z))]
        refine iteF ?_
        exact fin 0 (by rw [if_neg c])
    · rintro H' ⟨s1, hDl⟩
      rw [Int.toNat_natCast] at hDl
      exact k H' Dl s1 hD hDl
end

abbrev sNC : Stmt := top 33
abbrev sTT : Stmt := top 34
def spNC (C : Addr) : Sp := fun vs H Q _ => ∃ (x a : Addr) (p : Int) (M : Mach) (st : Int) (cs : List Int), vs = [.ref x, .ref a] ∧ TurAt C H x p M st ∧ OkT p M st ∧ CsAt H a cs ∧ CsOk p M cs ∧ ∀ H' r, Same H H' → H r = none → H' r = some (.lst ((nextC p M cs).map V.int)) → Q (.ref r) H'
def spTT (C : Addr) : Sp := fun vs H Q _ => ∃ (x a : Addr) (p : Int) (M : Mach) (st : Int) (cs : List Int), vs = [.ref x, .ref a] ∧ TurAt C H x p M st ∧ OkT p M st ∧ CsAt H a cs ∧ CsOk p M cs ∧ ∀ H', Same H H' → Q (.int (totC p M cs)) H'
theorem no_sts (p : Int) (t : Addr) (st : Int) : (tf p t st).lookup ("states" : Str) = none := tf_no p t st (by decide +kernel) (by decide +kernel) (by decide +kernel)
theorem sts_at {H : Hp} {xs : List V} {M : Mach} {i : Nat} {y : V} (h : StsAt H xs M) (e : xs[i]? = some y) : i < M.length ∧ ∃ b g, y = .ref b ∧ H b = some (.tup [.int (M.getD i (0, [])).1, .ref g]) ∧ H g = some (.tup ((M.getD i (0, [])).2.map V.int)) ∧ M.getD i (0, []) ∈ M := by
  have hi : i < M.length := by rw [← h.1]; exact (List.getElem?_eq_some_iff.mp e).1
  have hm : M[i]? = some M[i] := List.getElem?_eq_getElem hi
  obtain ⟨b, g, rfl, h1, h2⟩ := h.2 i y _ e hm
  have eg : M.getD i (0, []) = M[i] := by rw [List.getD_eq_getElem?_getD, hm]; rfl
  rw [eg]
  exact ⟨hi, b, g, rfl, h1, h2, List.getElem_mem hi⟩
theorem cs_get {cs : List Int} {i : Nat} {d : Int} (h : cs[i]? = some d) : d = cs.getD i 0 := by rw [List.getD_eq_getElem?_getD, h]; rfl
section
variable {P : Program} {w : World} {K : PySem.W.Frag} {mg : Str → Option Value} {base : Heap} {aP : Addr} {tD : Tok} {C : Addr} {mc u : Value}
theorem scNC : FnScope ["turner", "counts", "sums", "count", "_", "targets", "target", "found"] ["turner", "counts"] (defScope sNC) := ⟨rfl, rfl, rfl, by decide +kernel, rfl, by decide +kernel, by decide +kernel⟩
theorem nmNC : nmB ["turner", "counts", "sums", "count", "_", "targets", "target", "found"] [("turner", 0), ("counts", 1), ("sums", 2), ("count", 3), ("_", 4), ("targets", 5), ("target", 6)] ["_check_counts", "len", "zip"] (defScope sNC) = true := by decide +kernel
theorem ok_nc {f : Addr} {fd : FuncData} (F : Fun K "next_counts" "next_counts" sNC f fd) (B : Bn mg) (T : Tc K C) (D : Df P w K mg base 4 "_check_counts" ["turner", "counts"] (spChC C)) (E2 : Mf P w K mg base 1 C "states" ["self"] (spSts C)) (E4 : Pf P w K mg base 1 C "prime" ["self"] (getSp C "_prime")) (O2 : Ol P w K mg base 1 C ["self"] (spLen C)) : FnOk P w K mg base CX0 5 f fd ["turner", "counts"] (spNC C) := by
  refine F.ok scNC (fun vs H Q E h => ?_) (fun cdv A outer s H vs Q E hr h => ?_)
  · obtain ⟨x, a, p, M, st, cs, rfl, _⟩ := h
    rfl
  · obtain ⟨x, a, p, M, st, cs, rfl, hT, hO, ha, hc, k⟩ := h
    have hl := hO.le
    have p2 := hO.pr.two
    have hcl := T.cl
    obtain ⟨b1, b2, b3, b4, b5, b6, b7, b8, b9, b10, b11⟩ := B
    refine' ex_mk ?d ?_
    case d =>
      have nm := nm_of (CX := CX0) (P := P) (w := w) (K := K) (mg := mg) (base := base) (outer := outer) (H := H) (E := E) nmNC hr
      refine' pss_cons ?s1 (pss_cons (ps_asg (pe_op op_rep (pe_lst (pa_cons pe_int pa_nil)) (n_lenO nm (by walk_at "as") ?g1 O2 (by decide) (pa_cons ?l1 pa_nil))) ?g2)
        (pss_cons (n_for nm PassesOwn.never (pi_or (n_zipA nm (by walk_at "as") ?z1 (pa_cons ?z2 (pa_cons ?z3 pa_nil))) (n_zip nm (by walk_at "as") ?z4 (pa_cons ?z5 (pa_cons ?z6 pa_nil)))) ?zg
          (pss_one (n_for nm PassesOwn.never (pi_tup ?t1) ?tg (pss_one (ps_augS ?a1 ?a2 (n_getN nm) ?a3 ip_add set_list)))))
        (pss_one (ps_ret ?lc))))
      case s1 => walk_at "ps"
      case g1 => walk_at "mem"
      case l1 => walk_at "pe"
      case g2 => walk_at "pg"
      case z1 => walk_at "mem"
      case z2 => walk_at "pe"
      case z3 => walk_at "pe"
      case z4 => walk_at "mem"
      case z5 => walk_at "pe"
      case z6 => walk_at "pe"
      case zg => walk_at "pg"
      case t1 => walk_at "pe"
      case tg => walk_at "pg"
      case a1 => walk_at "pe"
      case a2 => walk_at "pe"
      case a3 => walk_at "pe"
      case lc =>
        refine' n_lc (own := [("found", 7)]) (g := gName 7) (NS' := [("turner", 0), ("found", 7)]) (WS' := [("found", 7)]) (G' := []) (N := ["turner", "counts", "sums", "count", "_", "targets", "target", "found"]) (scD := defScope sNC) nm rfl rfl (by decide +kernel) (by decide +kernel) (pi_list ?li) (fun X' nm2 => ?lg) (fun X' nm2 => pe_op op_mod ?e1 (n_p nm2 hcl E4 (by decide) ?e2))
        case li => walk_at "pe"
        case lg => walk_at "pg"
        case e1 => walk_at "pe"
        case e2 => walk_at "pe"
    refine ⟨_, rfl, _, rfl, x, a, p, M, st, cs, rfl, hT, hO, ha, hc, fun H1 s1 => ?_⟩
    refine ⟨by show 1 ≤ sizeLine; decide, fun l hl0 => ?_⟩
    have s1l : Same H1 (upd H1 l (.lst [.int 0])) := same_new hl0
    refine ⟨_, rfl, ?_⟩
    dsimp only [tNil]
    refine len_q (hT.same (Same.trans s1 s1l)) hO ?_
    refine ⟨l, _, _, rfl, rfl, upd_same, by omega, by omega, ?_, fun q hq0 => ?_⟩
    · show 1 * ((M.length : Nat) : Int).toNat ≤ sizeLine
      exact Nat.le_of_lt (small1000 (by omega))
    rw [Int.toNat_natCast, rep_int]
    have sq : Same H1 (upd (upd H1 l (.lst [.int 0])) q (.lst ((List.replicate M.length (0 : Int)).map V.int))) := same_add s1l hq0
    have hqN : H1 q = none := Same.free s1l hq0
    generalize eH2 : upd (upd H1 l (.lst [.int 0])) q (.lst ((List.replicate M.length (0 : Int)).map V.int)) = H2 at *
    have hq2 : H2 q = some (.lst ((sumC M cs 0).map V.int)) := by rw [← eH2]; exact upd_same
    have hT2 := hT.same (Same.trans s1 sq)
    have hqH : H q = none := Same.free s1 hqN
    have main : ∀ (H3 : Hp) (r : Addr) (xs : List V) (J : It) (D : Ends), Same H2 H3 → H2 r = none → H3 r = some (.lst xs) → StsAt H3 xs M → PairsJ J (Keep q H3) (cs.map V.int) xs →
        (∀ σ H4, Keep q H3 H4 → H4 q = some (.lst ((sumC M cs M.length).map V.int)) → (∃ v3 v4 v5 v6, σ = [some (.ref x), some (.ref a), some (.ref q), v3, v4, v5, v6, none]) → D.nx σ H4) →
        ∃ W : Nat → Nat → L2.St → Hp → Prop, (∃ m, W 0 m [some (.ref x), some (.ref a), some (.ref q), none, none, none, none, none] H3) ∧ ∀ i m σ H, W i m σ H →
          (J.stop i H ∧ D.nx σ H) ∨ (J.go i H ∧ ∃ N : L2.St → Hp → Prop, (∀ σ' H', N σ' H' → ∃ m', m' < m ∧ W (i + 1) m' σ' H') ∧ ∀ v H', J.yld i H v H' → gTup K 2 (gCons (gName 3) (gCons (gTup K 2 (gCons (gName 4) (gCons (gName 5) gNil))) gNil)) v σ H' fun σ2 H2 =>
            tFor (iTup K (tVar 5)) (gName 6) (tAugS (tVar 2) (tVar 6) (tVar 3) (rGetN K) (ipI fun i j => i + j) rSetL) { D with nx := N, ct := N, bk := D.nx } σ2 H2) := by
      intro H3 r xs J D s3 hr0 hr hxs hj hd
      have hrq : r ≠ q := fun e => by rw [e, hq2] at hr0; cases hr0
      have hq3 := s3 _ _ hq2
      refine for_pairs hj (by rw [List.length_map, hc.len, hxs.1]) (fun i σ H4 => (∃ v3 v4 v5 v6, σ = [some (.ref x), some (.ref a), some (.ref q), v3, v4, v5, v6, none]) ∧ Keep q H3 H4 ∧ H4 q = some (.lst ((sumC M cs i).map V.int)))
        ⟨⟨none, none, none, none, rfl⟩, keep_rfl, hq3⟩ (fun i σ H4 h => h.2.1) ?_ ?_
      · rintro i y z Tp σ H4 hy hz ⟨⟨v3, v4, v5, v6, rfl⟩, k4, hq4⟩ hTp
        obtain ⟨d, hd', rfl⟩ := ints_at hy
        have hxs4 : StsAt H4 xs M := hxs.keepT hq3 k4
        obtain ⟨hi, b, g, rfl, hb, hg, hmem⟩ := sts_at hxs4 hz
        have s45 : Same H4 (upd H4 Tp (.tup [.int d, .ref b])) := same_new hTp
        generalize eH5 : upd H4 Tp (.tup [.int d, .ref b]) = H5 at *
        have hTp5 : H5 Tp = some (.tup [.int d, .ref b]) := by rw [← eH5]; exact upd_same
        refine ⟨Tp, _, rfl, SqT.of hTp5, rfl, _, _, rfl, _, _, rfl, b, _, rfl, SqT.of (s45 _ _ hb), rfl, _, _, rfl, _, _, rfl, rfl, rfl, ?_⟩
        refine ⟨_, rfl, g, rfl, ⟨_, SqT.of (s45 _ _ hg)⟩, ?_⟩
        have hgq : g ≠ q := ne_of hg hq4 (by intro z; cases z)
        refine for_seq (S := fun H6 => H6 g = some (.tup ((M.getD i (0, [])).2.map V.int))) (sj_T fun H6 h6 => SqT.of h6) (fun j σ H6 => (∃ v6, σ = [some (.ref x), some (.ref a), some (.ref q), some (.int d), some (.int (M.getD i (0, [])).1), some (.ref g), v6, none]) ∧ Keep q H3 H6 ∧ H6 g = some (.tup ((M.getD i (0, [])).2.map V.int)) ∧ H6 q = some (.lst ((addR (sumC M cs i) ((M.getD i (0, [])).2.take j) d).map V.int)))
          ⟨⟨_, rfl⟩, keep_trans k4 (same_keep s45), s45 _ _ hg, s45 _ _ hq4⟩ (fun j σ H6 h => h.2.2.1) ?_ ?_
        · rintro j y σ H6 hy ⟨⟨v6, rfl⟩, k6, hg6, hq6⟩
          obtain ⟨t, ht, rfl⟩ := ints_at hy
          have hgo := hO.ok.goal _ hmem t (List.mem_of_getElem? ht)
          have hlen : (addR (sumC M cs i) ((M.getD i (0, [])).2.take j) d).length = M.length := by rw [addR_len, sumC_len]
          have htk : (M.getD i (0, [])).2.take (j + 1) = (M.getD i (0, [])).2.take j ++ [t] := by rw [List.take_add_one, ht]; rfl
          refine ⟨_, rfl, _, rfl, q, _, t, _, rfl, rfl, SqL.of hq6, hgo.1, map_get_int (by omega), ?_⟩
          refine ⟨_, rfl, _, _, rfl, rfl, ?_⟩
          refine ⟨q, _, t, t.toNat, rfl, rfl, hq6, ix_in hgo.1 (by rw [List.length_map, hlen]; exact hgo.2), ?_⟩
          refine ⟨⟨_, rfl⟩, ?_, ?_, ?_⟩
          · intro b' o n e
            rw [upd_ne n]
            exact k6 b' o n e
          · rw [upd_ne hgq]; exact hg6
          · rw [upd_same, map_set_int, htk, addR_snoc]; rfl
        · rintro σ H6 ⟨⟨v6, rfl⟩, k6, hg6, hq6⟩
          rw [List.length_map, List.take_length] at hq6
          refine ⟨⟨_, _, _, _, rfl⟩, k6, ?_⟩
          rw [hq6, sumC, cs_get hd']
      · rintro σ H4 ⟨hσ, k4, hq4⟩
        rw [List.length_map, hc.len] at hq4
        exact hd σ H4 k4 hq4 hσ
    have tail : ∀ (H3 : Hp) (σ : L2.St) (H4 : Hp), Same H2 H3 → Keep q H3 H4 → H4 q = some (.lst ((sumC M cs M.length).map V.int)) → (∃ v3 v4 v5 v6, σ = [some (.ref x), some (.ref a), some (.ref q), v3, v4, v5, v6, none]) →
        tLc (iList K (tVar 2)) (gName 7) tYes (tOp (fun x y H Q => ∃ i j, x = .int i ∧ y = .int j ∧ 0 < j ∧ Q (.int (i % j)) H) (tVar 7) (tProp C (getSp C "_prime") [] E0 (tVar 0))) [7] σ H4 Q := by
      rintro H3 σ H4 s3 k4 hq4 ⟨v3, v4, v5, v6, rfl⟩
      have sH : Same H H4 := fun b o e => k4 b o (ne_of_none e hqH) (s3 _ _ (sq _ _ (s1 _ _ e)))
      have hT4 := hT.same sH
      refine ⟨_, rfl, q, rfl, ⟨_, SqL.of hq4⟩, fun Dl hD => ?_⟩
      refine lc_seq (fs := (nextC p M cs).map V.int) (sj_L fun H5 s5 => SqL.of (s5 _ _ hq4)) hD (by rw [List.length_map, List.length_map, (nextC_ok hO.pr M cs).len, sumC_len]) (small1000 (by rw [List.length_map, sumC_len]; omega)) ?_ ?_ gm_nm
      · intro j y z H5 Qk hy hz s5 kk
        obtain ⟨d, hd, rfl⟩ := ints_at hy
        obtain ⟨e, he, rfl⟩ := ints_at hz
        have ee : e = d % p := by
          unfold nextC at he
          rw [List.getElem?_map, hd] at he
          exact (Option.some.inj he).symm
        subst ee
        refine ⟨rfl, _, rfl, _, rfl, prm_q (K := K) (hT4.same s5) ?_⟩
        exact ⟨_, _, rfl, rfl, by omega, kk _ (fun _ _ e => e)⟩
      · intro H5 s5 hDl
        exact k H5 Dl (Same.trans sH s5) (Same.free sH hD) hDl
    obtain ⟨dx, tx, qx, hx1, hxa, hxb⟩ := id hT2
    rcases ha with ha | ha
    · have haq : a ≠ q := ne_of_none ha hqH
      have ha2 := sq _ _ (s1 _ _ ha)
      refine .inl ⟨_, rfl, _, rfl, x, dx, _, rfl, hx1, no_sts _ _ _, x, p, M, st, rfl, hT2, fun H3 r xs s3 hr0 hr hxs => ?_⟩
      have hrq : r ≠ q := fun e => by rw [e, hq2] at hr0; cases hr0
      refine ⟨a, r, _, _, rfl, .inl ⟨SqL.of (s3 _ _ ha2), SqL.of hr, main H3 r xs (Itz K a r) _ s3 hr0 hr hxs (pj_L fun H4 k4 => ⟨SqL.of (k4 a _ haq (s3 _ _ ha2)), SqL.of (k4 r _ hrq hr)⟩) fun σ H4 k4 hq4 hσ => ?_⟩⟩
      exact tail H3 σ H4 s3 k4 hq4 hσ
    · have haq : a ≠ q := ne_of_none ha hqH
      have ha2 := sq _ _ (s1 _ _ ha)
      refine .inr ⟨_, rfl, _, rfl, x, dx, _, rfl, hx1, no_sts _ _ _, x, p, M, st, rfl, hT2, fun H3 r xs s3 hr0 hr hxs => ?_⟩
      have hrq : r ≠ q := fun e => by rw [e, hq2] at hr0; cases hr0
      refine ⟨a, r, _, _, rfl, SqT.of (s3 _ _ ha2), SqL.of hr, main H3 r xs (ItzM K a r) _ s3 hr0 hr hxs (pj_M (by rw [List.length_map, hc.len, hxs.1]) fun H4 k4 => ⟨SqT.of (k4 a _ haq (s3 _ _ ha2)), SqL.of (k4 r _ hrq hr)⟩) fun σ H4 k4 hq4 hσ => ?_⟩
      exact tail H3 σ H4 s3 k4 hq4 hσ
theorem scTT : FnScope ["turner", "counts", "count", "turn", "_"] ["turner", "counts"] (defScope sTT) := ⟨rfl, rfl, rfl, by decide +kernel, rfl, by decide +kernel, by decide +kernel⟩
theorem nmTT : nmB ["turner", "counts", "count", "turn", "_"] [("turner", 0), ("counts", 1)] ["_check_counts", "sum", "zip"] (defScope sTT) = true := by decide +kernel
theorem prodC_at {M : Mach} {cs : List Int} {j : Nat} {z : Int} (h : (prodC M cs)[j]? = some z) : z = cs.getD j 0 * (M.getD j (0, [])).1 := by
  unfold prodC at h
  rw [List.getElem?_map] at h
  by_cases c : j < M.length
  · rw [List.getElem?_range c] at h
    exact (Option.some.inj h).symm
  · rw [List.getElem?_eq_none (by rw [List.length_range]; omega)] at h
    cases h
theorem ok_tt {f : Addr} {fd : FuncData} (F : Fun K "turn_total" "turn_total" sTT f fd) (B : Bn mg) (bs : mg "sum" = none) (T : Tc K C) (D : Df P w K mg base 4 "_check_counts" ["turner", "counts"] (spChC C)) (E2 : Mf P w K mg base 1 C "states" ["self"] (spSts C)) (E4 : Pf P w K mg base 1 C "prime" ["self"] (getSp C "_prime")) : FnOk P w K mg base CX0 5 f fd ["turner", "counts"] (spTT C) := by
  refine F.ok scTT (fun vs H Q E h => ?_) (fun cdv A outer s H vs Q E hr h => ?_)
  · obtain ⟨x, a, p, M, st, cs, rfl, _⟩ := h
    rfl
  · obtain ⟨x, a, p, M, st, cs, rfl, hT, hO, ha, hc, k⟩ := h
    have hl := hO.le
    have p2 := hO.pr.two
    have hcl := T.cl
    obtain ⟨b1, b2, b3, b4, b5, b6, b7, b8, b9, b10, b11⟩ := B
    refine' ex_mk ?d ?_
    case d =>
      have nm := nm_of (CX := CX0) (P := P) (w := w) (K := K) (mg := mg) (base := base) (outer := outer) (H := H) (E := E) nmTT hr
      refine' pss_cons ?s1 (pss_one (ps_ret (pe_op op_mod (n_b (x := "sum") nm bs (cr_sum nm.calm) PyProof.Rows.boot_sum ?bg (pa_cons ?lc pa_nil)) (n_p nm hcl E4 (by decide) ?e5))))
      case s1 => walk_at "ps"
      case bg => walk_at "mem"
      case e5 => walk_at "pe"
      case lc =>
        refine' n_lc (own := [("count", 2), ("turn", 3), ("_", 4)]) (g := gTup K 2 (gCons (gName 2) (gCons (gTup K 2 (gCons (gName 3) (gCons (gName 4) gNil))) gNil))) (NS' := [("count", 2), ("turn", 3), ("_", 4)]) (WS' := [("count", 2), ("turn", 3), ("_", 4)]) (G' := []) (N := ["turner", "counts", "count", "turn", "_"]) (scD := defScope sTT) nm rfl rfl (by decide +kernel) (by decide +kernel) (pi_or (n_zipA nm (by walk_at "as") ?z1 (pa_cons ?z2 (pa_cons ?z3 pa_nil))) (n_zip nm (by walk_at "as") ?z4 (pa_cons ?z5 (pa_cons ?z6 pa_nil)))) (fun X' nm2 => ?lg) (fun X' nm2 => ?le)
        case z1 => walk_at "mem"
        case z2 => walk_at "pe"
        case z3 => walk_at "pe"
        case z4 => walk_at "mem"
        case z5 => walk_at "pe"
        case z6 => walk_at "pe"
        case lg => walk_at "pg"
        case le => walk_at "pe"
    refine ⟨_, rfl, _, rfl, x, a, p, M, st, cs, rfl, hT, hO, ha, hc, fun H1 s1 => ?_⟩
    have hT1 := hT.same s1
    obtain ⟨dx, tx, qx, hx1, hxa, hxb⟩ := id hT1
    have body : ∀ (H3 : Hp) (r : Addr) (xs : List V) (J : It) (Dl : Addr) (Qd : Hp → Prop), Same H1 H3 → StsAt H3 xs M → PairsJ J (Same H3) (cs.map V.int) xs → H3 Dl = none → (∀ H', Same H3 H' → H' Dl = some (.lst ((prodC M cs).map V.int)) → Qd H') →
        ∃ W : Nat → Nat → Hp → Prop, (∃ m, W 0 m (upd H3 Dl (.lst []))) ∧ ∀ i' m H, W i' m H →
      (J.stop i' H ∧ Qd H) ∨ (J.go i' H ∧ ∃ Nx : Hp → Prop, (∀ H', Nx H' → ∃ m', m' < m ∧ W (i' + 1) m' H') ∧ ∀ x' H', J.yld i' H x' H' → gTup K 2 (gCons (gName 2) (gCons (gTup K 2 (gCons (gName 3) (gCons (gName 4) gNil))) gNil)) x' [some (.ref x), some (.ref a), none, none, none] H' fun σ2 H2 => wipe σ2 [2, 3, 4] = [some (.ref x), some (.ref a), none, none, none] ∧ tYes σ2 H2 fun b H3 =>
        if b = true then tOp (rI CMul fun i j => .int (i * j)) (tVar 2) (tVar 3) σ2 H3 fun y H4 => ∃ acc, H4 Dl = some (.lst acc) ∧ acc.length < sizeLine ∧ Nx (upd H4 Dl (.lst (acc ++ [y]))) else Nx H3) := by
      intro H3 r xs J Dl Qd s3 hxs hj hD hd
      refine lc_pairs (σ := [some (.ref x), some (.ref a), none, none, none]) (vs := [2, 3, 4]) (fs := (prodC M cs).map V.int) hj (by rw [List.length_map, hc.len, hxs.1]) hD (by rw [List.length_map, List.length_map, hc.len]; unfold prodC; rw [List.length_map, List.length_range]) (small1000 (by rw [List.length_map, hc.len]; omega)) ?_ hd (gm_tup (gms_cons gm_nm (gms_cons (gm_tup (gms_cons gm_nm (gms_cons gm_nm gms_nil))) gms_nil)))
      intro j y z e Tp H4 Qk hy hz he s34 hTp kk
      obtain ⟨d, hd', rfl⟩ := ints_at hy
      obtain ⟨e, he', rfl⟩ := ints_at he
      obtain rfl := prodC_at he'
      obtain ⟨hi, b, g, rfl, hb, hg, hmem⟩ := sts_at (hxs.same s34) hz
      have s45 : Same H4 (upd H4 Tp (.tup [.int d, .ref b])) := same_new hTp
      have d01 := hc.val d (List.mem_of_getElem? hd')
      refine ⟨Tp, _, rfl, SqT.of upd_same, rfl, _, _, rfl, _, _, rfl, b, _, rfl, SqT.of (s45 _ _ hb), rfl, _, _, rfl, _, _, rfl, rfl, rfl, rfl, ?_⟩
      refine ⟨_, rfl, _, rfl, _, _, rfl, rfl, .inl ⟨by omega, by omega⟩, ?_⟩
      rw [cs_get hd'] at *
      exact kk _ (fun _ _ e => e)
    rcases ha with ha | ha
    · have ha1 := s1 _ _ ha
      refine .inl ⟨_, rfl, _, rfl, x, dx, _, rfl, hx1, no_sts _ _ _, x, p, M, st, rfl, hT1, fun H3 r xs s3 hr0 hr hxs => ?_⟩
      refine ⟨a, r, _, _, rfl, .inl ⟨SqL.of (s3 _ _ ha1), SqL.of hr, fun Dl hD => body H3 r xs (Itz K a r) Dl _ s3 hxs (pj_L fun H4 k4 => ⟨SqL.of (k4 a _ (s3 _ _ ha1)), SqL.of (k4 r _ hr)⟩) hD fun H4 s4 hDl => ?_⟩⟩
      refine ⟨Dl, _, rfl, SqL.of hDl, _, rfl, prm_q (K := K) (hT1.same (Same.trans s3 s4)) ?_⟩
      exact ⟨_, _, rfl, rfl, by show (0 : Int) < p; omega, k H4 (Same.trans s1 (Same.trans s3 s4))⟩
    · have ha1 := s1 _ _ ha
      refine .inr ⟨_, rfl, _, rfl, x, dx, _, rfl, hx1, no_sts _ _ _, x, p, M, st, rfl, hT1, fun H3 r xs s3 hr0 hr hxs => ?_⟩
      refine ⟨a, r, _, _, rfl, SqT.of (s3 _ _ ha1), SqL.of hr, fun Dl hD => body H3 r xs (ItzM K a r) Dl _ s3 hxs (pj_M (by rw [List.length_map, hc.len, hxs.1]) fun H4 k4 => ⟨SqT.of (k4 a _ (s3 _ _ ha1)), SqL.of (k4 r _ hr)⟩) hD fun H4 s4 hDl => ?_⟩
      refine ⟨Dl, _, rfl, SqL.of hDl, _, rfl, prm_q (K := K) (hT1.same (Same.trans s3 s4)) ?_⟩
      exact ⟨_, _, rfl, rfl, by show (0 : Int) < p; omega, k H4 (Same.trans s1 (Same.trans s3 s4))⟩
end

abbrev sLF : Stmt := top 76
abbrev sLL : Stmt := top 77
abbrev sLS : Stmt := top 78
def spLF : Sp := fun vs H Q _ => ∃ (t : Addr) (p : Int) (M : Mach) (st : Int), vs = [.ref t] ∧ MAt H t p M st ∧ OkT p M st ∧ ∀ H' r, Same H H' → H r = none → H' r = some (.lst ((firstC M st).map V.int)) → Q (.ref r) H'
def spLL : Sp := fun vs H Q _ => ∃ (t a : Addr) (p : Int) (M : Mach) (st : Int) (cs : List Int), vs = [.ref t, .ref a] ∧ MAt H t p M st ∧ OkT p M st ∧ H a = some (.lst (cs.map V.int)) ∧ CsOk p M cs ∧ ∀ H' r, Same H H' → H r = none → H' r = some (.lst ((nextC p M cs).map V.int)) → Q (.ref r) H'
def spLS : Sp := fun vs H Q _ => ∃ (t a : Addr) (p : Int) (M : Mach) (st : Int) (cs : List Int), vs = [.ref t, .ref a] ∧ MAt H t p M st ∧ OkT p M st ∧ H a = some (.lst (cs.map V.int)) ∧ CsOk p M cs ∧ ∀ H', Same H H' → Q (.int (totC p M cs)) H'
theorem sts_get {H : Hp} {xs : List V} {M : Mach} {i : Nat} (h : StsAt H xs M) (hi : i < M.length) : ∃ b g, atI xs (i : Int) = some (.ref b) ∧ H b = some (.tup [.int (M.getD i (0, [])).1, .ref g]) ∧ H g = some (.tup ((M.getD i (0, [])).2.map V.int)) ∧ M.getD i (0, []) ∈ M := by
  have hx : i < xs.length := by rw [h.1]; exact hi
  obtain ⟨_, b, g, e, h1, h2, h3⟩ := sts_at h (List.getElem?_eq_getElem hx)
  exact ⟨b, g, atI_nat (by rw [List.getElem?_eq_getElem hx, e]), h1, h2, h3⟩
theorem at_int {l : List Int} {i : Nat} (h : i < l.length) : atI (l.map V.int) (i : Int) = some (V.int (l.getD i 0)) := atI_nat (map_get_int h)
theorem at_intZ {l : List Int} {d : Int} (h0 : 0 ≤ d) (h : d < (l.length : Int)) : atI (l.map V.int) d = some (V.int (l.getD d.toNat 0)) := by
  have e := at_int (l := l) (i := d.toNat) (by omega)
  rw [Int.toNat_of_nonneg h0] at e
  exact e
section
variable {P : Program} {w : World} {K : PySem.W.Frag} {mg : Str → Option Value} {base : Heap} {aP : Addr} {tD : Tok} {C : Addr} {mc u : Value}
theorem scLF : FnScope ["_law_m", "_law_k"] ["_law_m"] (defScope sLF) := ⟨rfl, rfl, rfl, by decide +kernel, rfl, by decide +kernel, by decide +kernel⟩
theorem nmLF : nmB ["_law_m", "_law_k"] [("_law_m", 0)] ["range", "len"] (defScope sLF) = true := by decide +kernel
theorem ok_lf {f : Addr} {fd : FuncData} (F : Fun K "_law_first" "_law_first" sLF f fd) (B : Bn mg) : FnOk P w K mg base CX0 1 f fd ["_law_m"] spLF := by
  refine F.ok scLF (fun vs H Q E h => ?_) (fun cdv A outer s H vs Q E hr h => ?_)
  · obtain ⟨t, p, M, st, rfl, _⟩ := h
    rfl
  · obtain ⟨t, p, M, st, rfl, ⟨r, xs, h1, h2, h3⟩, hO, k⟩ := h
    have hl := hO.le
    obtain ⟨b1, b2, b3, b4, b5, b6, b7, b8, b9, b10, b11⟩ := B
    refine' ex_mk ?d ?_
    case d =>
      have nm := nm_of (CX := CX0) (P := P) (w := w) (K := K) (mg := mg) (base := base) (outer := outer) (H := H) (E := E) nmLF hr
      refine' pss_one (ps_ret (n_lc (own := [("_law_k", 1)]) (g := gName 1) (NS' := [("_law_m", 0), ("_law_k", 1)]) (WS' := [("_law_k", 1)]) (G' := ["int"]) (N := ["_law_m", "_law_k"]) (scD := defScope sLF) nm rfl rfl (by decide +kernel) (by decide +kernel) (n_rng nm (by walk_at "as") ?rg (pa_cons (n_len nm (by walk_at "as") ?gl (pa_cons ?l1 pa_nil)) pa_nil)) (fun X' nm2 => ?lg)
        (fun X' nm2 => n_t (x := "int") nm2 (by walk_at "as") call_int1 PyProof.Rows.boot_int ?bi (pa_cons (pe_cmpR op_eq ?e1 ?e2 (nomark _)) pa_nil))))
      case rg => walk_at "mem"
      case gl => walk_at "mem"
      case l1 => walk_at "peT"
      case lg => walk_at "pg"
      case bi => walk_at "mem"
      case e1 => walk_at "pe"
      case e2 => walk_at "peT"
    have hx := h3.1
    refine ⟨_, rfl, t, _, 1, _, rfl, rfl, SqT.of h1, rfl, r, xs, rfl, .inl (SqL.of h2), _, rfl, by omega, by omega, fun Dl hD => ?_⟩
    refine lc_range (lo := 0) (n := ((xs.length : Nat) : Int).toNat) (fun i H' => Same H H' ∧ H' Dl = some (.lst (((List.range i).map fun (i : Nat) => if (i : Int) = st then (1 : Int) else 0).map V.int))) ⟨same_new hD, upd_same⟩ ?_ ?_
    · rintro i H' hi ⟨s1, hDl⟩
      refine ⟨rfl, yes_ ?_⟩
      have e0 : (0 : Int) + (i : Int) = (i : Int) := by omega
      rw [e0]
      refine ⟨_, rfl, _, rfl, t, _, 2, _, rfl, rfl, SqT.of (s1 _ _ h1), rfl, rfl, .inr ⟨_, rfl, ?_⟩⟩
      refine ⟨_, hDl, ?_, same_put s1 hD, ?_⟩
      · rw [List.length_map, List.length_map, List.length_range]; exact small1000 (by omega)
      · rw [upd_same, List.range_succ, List.map_append, List.map_append]
        by_cases c : (i : Int) = st
        · rw [decide_eq_true (by rw [c])]
          show _ = some (HO.lst (_ ++ [V.int (if (i : Int) = st then 1 else 0)]))
          rw [if_pos c]; rfl
        · rw [decide_eq_false (fun z => c (by injection z))]
          show _ = some (HO.lst (_ ++ [V.int (if (i : Int) = st then 1 else 0)]))
          rw [if_neg c]; rfl
    · rintro H' ⟨s1, hDl⟩
      rw [Int.toNat_natCast, hx] at hDl
      exact k H' Dl s1 hD hDl
theorem scLL : FnScope ["_law_m", "_law_row", "_law_found", "_law_k", "_law_goal"] ["_law_m", "_law_row"] (defScope sLL) := ⟨rfl, rfl, rfl, by decide +kernel, rfl, by decide +kernel, by decide +kernel⟩
theorem nmLL : nmB ["_law_m", "_law_row", "_law_found", "_law_k", "_law_goal"] [("_law_m", 0), ("_law_row", 1), ("_law_found", 2), ("_law_k", 3), ("_law_goal", 4)] ["range", "len", "int"] (defScope sLL) = true := by decide +kernel
theorem ok_ll {f : Addr} {fd : FuncData} (F : Fun K "_law_later" "_law_later" sLL f fd) (B : Bn mg) : FnOk P w K mg base CX0 1 f fd ["_law_m", "_law_row"] spLL := by
  refine F.ok scLL (fun vs H Q E h => ?_) (fun cdv A outer s H vs Q E hr h => ?_)
  · obtain ⟨t, a, p, M, st, cs, rfl, _⟩ := h
    rfl
  · obtain ⟨t, a, p, M, st, cs, rfl, ⟨r, xs, h1, h2, h3⟩, hO, ha, hc, k⟩ := h
    have hl := hO.le
    have p2 := hO.pr.two
    have hx := h3.1
    have hcl := hc.len
    obtain ⟨b1, b2, b3, b4, b5, b6, b7, b8, b9, b10, b11⟩ := B
    refine' ex_mk ?d ?_
    case d =>
      have nm := nm_of (CX := CX0) (P := P) (w := w) (K := K) (mg := mg) (base := base) (outer := outer) (H := H) (E := E) nmLL hr
      refine' pss_cons (ps_asg (pe_op op_rep (pe_lst (pa_cons pe_int pa_nil)) (n_len nm (by walk_at "as") ?g1 (pa_cons ?l1 pa_nil))) ?g2)
        (pss_cons (n_for nm PassesOwn.never (n_rng nm (by walk_at "as") ?rg (pa_cons (n_len nm (by walk_at "as") ?g3 (pa_cons ?l2 pa_nil)) pa_nil)) ?g4
          (pss_one (n_for nm PassesOwn.never (pi_tup (n_ixT nm (n_ixL nm ?i1 ?i2 (fun _ _ => rfl)) pe_int (fun _ _ => rfl))) ?g5
            (pss_one (ps_asg (pe_op op_mod (n_t (x := "int") nm (by walk_at "as") call_int1 PyProof.Rows.boot_int ?bi (pa_cons (pe_op op_add (n_ixL nm ?a1 ?a2 (fun _ _ => rfl)) (n_ixL nm ?a3 ?a4 (fun _ _ => rfl))) pa_nil)) ?a5) (pg_sub ?a6 ?a7 set_list))))))
        (pss_one ?ret))
      case g1 => walk_at "mem"
      case l1 => walk_at "peT"
      case g2 => walk_at "pg"
      case rg => walk_at "mem"
      case g3 => walk_at "mem"
      case l2 => walk_at "pe"
      case g4 => walk_at "pg"
      case i1 => walk_at "peT"
      case i2 => walk_at "pe"
      case g5 => walk_at "pg"
      case bi => walk_at "mem"
      case a1 => walk_at "pe"
      case a2 => walk_at "pe"
      case a3 => walk_at "pe"
      case a4 => walk_at "pe"
      case a5 => walk_at "peT"
      case a6 => walk_at "pe"
      case a7 => walk_at "pe"
      case ret => walk_at "ps"
    refine ⟨by show 1 ≤ sizeLine; decide, fun l hl0 => ?_⟩
    have s1l : Same H (upd H l (.lst [.int 0])) := same_new hl0
    refine ⟨_, rfl, t, _, 1, _, rfl, rfl, SqT.of (s1l _ _ h1), rfl, r, xs, rfl, .inl (SqL.of (s1l _ _ h2)), ?_⟩
    refine ⟨l, _, _, rfl, rfl, upd_same, by omega, by omega, ?_, fun q hq0 => ?_⟩
    · show 1 * ((xs.length : Nat) : Int).toNat ≤ sizeLine
      exact Nat.le_of_lt (small1000 (by omega))
    rw [Int.toNat_natCast, rep_int, hx]
    have sq : Same H (upd (upd H l (.lst [.int 0])) q (.lst ((List.replicate M.length (0 : Int)).map V.int))) := same_add s1l hq0
    have hqH : H q = none := Same.free s1l hq0
    generalize eH2 : upd (upd H l (.lst [.int 0])) q (.lst ((List.replicate M.length (0 : Int)).map V.int)) = H2 at *
    have hq2 : H2 q = some (.lst ((lawC p M cs 0).map V.int)) := by rw [← eH2]; exact upd_same
    refine ⟨_, rfl, a, _, rfl, .inl (SqL.of (sq _ _ ha)), _, rfl, by omega, by rw [List.length_map]; omega, ?_⟩
    refine for_range (lo := 0) (n := (((cs.map V.int).length : Nat) : Int).toNat) (fun i σ H4 => (∃ v3 v4, σ = [some (.ref t), some (.ref a), some (.ref q), v3, v4]) ∧ Same H H4 ∧ H4 q = some (.lst ((lawC p M cs i).map V.int))) ⟨⟨_, _, rfl⟩, sq, hq2⟩ ?_ ?_
    · rintro i σ H4 hi ⟨⟨v3, v4, rfl⟩, s4, hq4⟩
      rw [Int.toNat_natCast, List.length_map] at hi
      have e0 : (0 : Int) + (i : Int) = (i : Int) := by omega
      rw [e0]
      have hxs4 := h3.same s4
      obtain ⟨b, g, hat, hb, hg, hmem⟩ := sts_get hxs4 (by omega : i < M.length)
      refine ⟨_, rfl, t, _, 1, _, rfl, rfl, SqT.of (s4 _ _ h1), rfl, _, rfl, r, xs, _, _, rfl, rfl, SqL.of (s4 _ _ h2), hat, b, _, 1, _, rfl, rfl, SqT.of hb, rfl, g, rfl, ⟨_, SqT.of hg⟩, ?_⟩
      refine for_seq (S := fun H6 => H6 g = some (.tup ((M.getD i (0, [])).2.map V.int))) (sj_T fun H6 h6 => SqT.of h6) (fun j σ H6 => (∃ v4, σ = [some (.ref t), some (.ref a), some (.ref q), some (.int (i : Int)), v4]) ∧ Same H H6 ∧ H6 g = some (.tup ((M.getD i (0, [])).2.map V.int)) ∧ H6 q = some (.lst ((addMR p (lawC p M cs i) ((M.getD i (0, [])).2.take j) (cs.getD i 0)).map V.int)))
        ⟨⟨_, rfl⟩, s4, hg, hq4⟩ (fun j σ H6 h => h.2.2.1) ?_ ?_
      · rintro j y σ H6 hy ⟨⟨w4, rfl⟩, s6, hg6, hq6⟩
        obtain ⟨d, hd, rfl⟩ := ints_at hy
        have hgo := hO.ok.goal _ hmem d (List.mem_of_getElem? hd)
        have hlen : (addMR p (lawC p M cs i) ((M.getD i (0, [])).2.take j) (cs.getD i 0)).length = M.length := by rw [addMR_len, lawC_len]
        have htk : (M.getD i (0, [])).2.take (j + 1) = (M.getD i (0, [])).2.take j ++ [d] := by rw [List.take_add_one, hd]; rfl
        have hgq : g ≠ q := ne_of hg6 hq6 (by intro z; cases z)
        refine ⟨_, rfl, _, rfl, q, _, d, _, rfl, rfl, SqL.of hq6, at_intZ hgo.1 (by rw [hlen]; exact hgo.2), ?_⟩
        refine ⟨_, rfl, _, rfl, a, _, _, _, rfl, rfl, SqL.of (s6 _ _ ha), at_int (by omega), ?_⟩
        refine ⟨_, _, rfl, rfl, .inl ⟨_, rfl, ?_⟩⟩
        refine ⟨_, rfl, t, _, 0, _, rfl, rfl, SqT.of (s6 _ _ h1), rfl, _, _, rfl, rfl, (by show (0 : Int) < p; omega), ?_⟩
        refine ⟨_, rfl, _, rfl, q, _, d, d.toNat, rfl, rfl, hq6, ix_in hgo.1 (by rw [List.length_map, hlen]; exact hgo.2), ?_⟩
        refine ⟨⟨_, rfl⟩, same_put s6 hqH, by rw [upd_ne hgq]; exact hg6, ?_⟩
        rw [upd_same, map_set_int, htk, addMR_snoc]; rfl
      · rintro σ H6 ⟨⟨w4, rfl⟩, s6, hg6, hq6⟩
        rw [List.length_map, List.take_length] at hq6
        exact ⟨⟨_, _, rfl⟩, s6, hq6⟩
    · rintro σ H4 ⟨⟨v3, v4, rfl⟩, s4, hq4⟩
      rw [Int.toNat_natCast, List.length_map, hcl, lawC_eq hO.pr] at hq4
      exact ⟨_, rfl, k H4 q s4 hqH hq4⟩
theorem scLS : FnScope ["_law_m", "_law_row", "_law_k"] ["_law_m", "_law_row"] (defScope sLS) := ⟨rfl, rfl, rfl, by decide +kernel, rfl, by decide +kernel, by decide +kernel⟩
theorem nmLS : nmB ["_law_m", "_law_row", "_law_k"] [("_law_m", 0), ("_law_row", 1)] ["range", "len", "int", "sum"] (defScope sLS) = true := by decide +kernel
theorem ok_ls {f : Addr} {fd : FuncData} (F : Fun K "_law_sum" "_law_sum" sLS f fd) (B : Bn mg) (bs : mg "sum" = none) : FnOk P w K mg base CX0 1 f fd ["_law_m", "_law_row"] spLS := by
  refine F.ok scLS (fun vs H Q E h => ?_) (fun cdv A outer s H vs Q E hr h => ?_)
  · obtain ⟨t, a, p, M, st, cs, rfl, _⟩ := h
    rfl
  · obtain ⟨t, a, p, M, st, cs, rfl, ⟨r, xs, h1, h2, h3⟩, hO, ha, hc, k⟩ := h
    have hl := hO.le
    have p2 := hO.pr.two
    have hx := h3.1
    have hcl := hc.len
    obtain ⟨b1, b2, b3, b4, b5, b6, b7, b8, b9, b10, b11⟩ := B
    refine' ex_mk ?d ?_
    case d =>
      have nm := nm_of (CX := CX0) (P := P) (w := w) (K := K) (mg := mg) (base := base) (outer := outer) (H := H) (E := E) nmLS hr
      refine' pss_one (ps_ret (pe_op op_mod (n_t (x := "int") nm (by walk_at "as") call_int1 PyProof.Rows.boot_int ?bi (pa_cons (n_b (x := "sum") nm bs (cr_sum nm.calm) PyProof.Rows.boot_sum ?bg (pa_cons ?lc pa_nil)) pa_nil)) ?e0))
      case bi => walk_at "mem"
      case bg => walk_at "mem"
      case e0 => walk_at "peT"
      case lc =>
        refine' n_lc (own := [("_law_k", 2)]) (g := gName 2) (NS' := [("_law_m", 0), ("_law_row", 1), ("_law_k", 2)]) (WS' := [("_law_k", 2)]) (G' := []) (N := ["_law_m", "_law_row", "_law_k"]) (scD := defScope sLS) nm rfl rfl (by decide +kernel) (by decide +kernel) (n_rng nm (by walk_at "as") ?rg (pa_cons (n_len nm (by walk_at "as") ?gl (pa_cons ?l1 pa_nil)) pa_nil)) (fun X' nm2 => ?lg)
          (fun X' nm2 => pe_op op_mul (n_ixL nm2 ?e1 ?e2 (fun _ _ => rfl)) (n_ixT nm2 (n_ixL nm2 ?e3 ?e4 (fun _ _ => rfl)) pe_int (fun _ _ => rfl)))
        case rg => walk_at "mem"
        case gl => walk_at "mem"
        case l1 => walk_at "pe"
        case lg => walk_at "pg"
        case e1 => walk_at "pe"
        case e2 => walk_at "pe"
        case e3 => walk_at "peT"
        case e4 => walk_at "pe"
    refine ⟨_, rfl, a, _, rfl, .inl (SqL.of ha), _, rfl, by omega, by rw [List.length_map]; omega, fun Dl hD => ?_⟩
    refine lc_range (lo := 0) (n := (((cs.map V.int).length : Nat) : Int).toNat) (fun i H' => Same H H' ∧ H' Dl = some (.lst (((List.range i).map fun k => cs.getD k 0 * (M.getD k (0, [])).1).map V.int))) ⟨same_new hD, upd_same⟩ ?_ ?_
    · rintro i H' hi ⟨s1, hDl⟩
      rw [Int.toNat_natCast, List.length_map] at hi
      have e0 : (0 : Int) + (i : Int) = (i : Int) := by omega
      rw [e0]
      refine ⟨rfl, yes_ ?_⟩
      obtain ⟨b, g, hat, hb, hg, hmem⟩ := sts_get (h3.same s1) (by omega : i < M.length)
      have hd : cs[i]? = some (cs.getD i 0) := by rw [List.getD_eq_getElem?_getD, List.getElem?_eq_getElem hi]; rfl
      have d01 := hc.val _ (List.mem_of_getElem? hd)
      refine ⟨_, rfl, _, rfl, a, _, _, _, rfl, rfl, SqL.of (s1 _ _ ha), at_int hi, ?_⟩
      refine ⟨_, rfl, t, _, 1, _, rfl, rfl, SqT.of (s1 _ _ h1), rfl, _, rfl, r, xs, _, _, rfl, rfl, SqL.of (s1 _ _ h2), hat, b, _, 0, _, rfl, rfl, SqT.of hb, rfl, ?_⟩
      refine ⟨_, _, rfl, rfl, .inl ⟨by omega, by omega⟩, ?_⟩
      refine ⟨_, hDl, ?_, same_put s1 hD, ?_⟩
      · rw [List.length_map, List.length_map, List.length_range]; exact small1000 (by omega)
      · rw [upd_same, List.range_succ, List.map_append, List.map_append]; rfl
    · rintro H' ⟨s1, hDl⟩
      rw [Int.toNat_natCast, List.length_map, hcl] at hDl
      refine ⟨Dl, _, rfl, SqL.of hDl, .inl ⟨_, rfl, ?_⟩⟩
      exact ⟨_, rfl, t, _, 0, _, rfl, rfl, SqT.of (s1 _ _ h1), rfl, _, _, rfl, rfl, (by show (0 : Int) < p; omega), k H' s1⟩
end

abbrev sOd : Stmt := top 74
abbrev sSg : Stmt := top 75
def odoM (p : Int) : Mach := [(1, List.replicate (p - 1).toNat 1 ++ [0]), (0, List.replicate p.toNat 1)]
def spOd : Sp := fun vs H Q _ => ∃ (p : Int), vs = [.int p] ∧ IsP p ∧ ∀ H' y, Same H H' → MAt H' y p (odoM p) 0 → Q (.ref y) H'
theorem odo_ok {p : Int} (hP : IsP p) : OkT p (odoM p) 0 := by
  rcases hP with rfl | rfl | rfl | rfl <;> exact ⟨by unfold IsP; omega, ⟨by decide, by decide, by decide⟩, by decide, by decide, by decide⟩
/-- the bag stands apart from a machine -/
theorem MAt.apart {H : Hp} {b l t r : Addr} {xs : List V} {M : Mach} (B : Bag H b l) (h : H r = some (.lst xs)) (hM : StsAt H xs M) : r ≠ b := fun e => by
  obtain ⟨i, k, m, u, ns, hb, _⟩ := B
  rw [e, hb] at h
  have e2 := HO.lst.inj (Option.some.inj h)
  subst e2
  have h1 : 1 < M.length := by rw [← hM.1]; show 1 < 5; decide
  obtain ⟨a, g, e3, _⟩ := hM.2 1 (.int i) M[1] rfl (List.getElem?_eq_getElem h1)
  cases e3
theorem MAt.keep {H H' : Hp} {b l t : Addr} {p : Int} {M : Mach} {st : Int} (h : MAt H t p M st) (B : Bag H b l) (k : Keep b H H') : MAt H' t p M st := by
  obtain ⟨r, xs, h1, h2, h3⟩ := h
  exact ⟨r, xs, k t _ (B.tup h1) h1, k r _ (MAt.apart (t := t) B h2 h3) h2, h3.keep B k⟩
theorem OkT.und0 {p : Int} {M : Mach} {st : Int} (h : OkT p M st) : OkT p (undM p M) st :=
  ⟨h.pr, by rw [undM_len]; exact undM_ok h.pr h.ok, h.st0, by rw [undM_len]; exact h.st1, by rw [undM_len]; exact h.le⟩
theorem OkT.join {p : Int} {M N : Mach} {st sd : Int} {J : Nat} (h1 : OkT p M st) (h2 : OkT p N sd) (hz : M.length * N.length ≤ 200) (D : Done p M N (st, sd) J) : OkT p (outJ p M N (st, sd) J) 0 ∧ (outJ p M N (st, sd) J).length ≤ M.length * N.length := by
  have hl : (outJ p M N (st, sd) J).length ≤ M.length * N.length := by
    rw [outJ_len]
    have h := done_len h1.pr h1.ok h2.ok (s0 := (st, sd)) ⟨h1.st0, h1.st1, h2.st0, h2.st1⟩ D.go
    have := D.stop
    omega
  refine ⟨⟨h1.pr, done_ok h1.pr D, by decide, ?_, by omega⟩, hl⟩
  rw [outJ_len]
  rcases Nat.eq_zero_or_pos J with e | e
  · subst e
    have := D.stop
    have z : (keyJ p M N (st, sd) 0).length = 1 := rfl
    omega
  · omega
section
variable {P : Program} {w : World} {K : PySem.W.Frag} {mg : Str → Option Value} {base : Heap} {aP : Addr} {tD : Tok} {C : Addr} {mc u : Value}
theorem scOd : FnScope ["_law_p"] ["_law_p"] (defScope sOd) := ⟨rfl, rfl, rfl, by decide +kernel, rfl, by decide +kernel, by decide +kernel⟩
theorem nmOd : nmB ["_law_p"] [("_law_p", 0)] [] (defScope sOd) = true := by decide +kernel
theorem ok_od {f : Addr} {fd : FuncData} (F : Fun K "_law_odometer" "_law_odometer" sOd f fd) : FnOk P w K mg base CX0 1 f fd ["_law_p"] spOd := by
  refine F.ok scOd (fun vs H Q E h => ?_) (fun cdv A outer s H vs Q E hr h => ?_)
  · obtain ⟨p, rfl, _⟩ := h
    rfl
  · obtain ⟨p, rfl, hP, k⟩ := h
    have p2 := hP.two
    refine' ex_mk ?d ?_
    case d =>
      have nm := nm_of (CX := CX0) (P := P) (w := w) (K := K) (mg := mg) (base := base) (outer := outer) (H := H) (E := E) nmOd hr
      refine' pss_one (ps_ret (pe_tup (pa_cons ?e1 (pa_cons (pe_lst (pa_cons (pe_tup (pa_cons pe_int (pa_cons (pe_op op_catA (pe_op op_repN (pe_tup (pa_cons pe_int pa_nil)) ?e2) (pe_tup (pa_cons pe_int pa_nil))) pa_nil))) (pa_cons (pe_tup (pa_cons pe_int (pa_cons (pe_op op_repN (pe_tup (pa_cons pe_int pa_nil)) ?e3) pa_nil))) pa_nil))) (pa_cons pe_int pa_nil)))))
      case e1 => walk_at "pe"
      case e2 => walk_at "pe"
      case e3 => walk_at "pe"
    refine ⟨_, rfl, by show 1 ≤ sizeLine; decide, fun a1 h1 => ?_⟩
    refine ⟨_, rfl, _, _, rfl, rfl, repN_one upd_same (by omega) (by omega) fun a2 H2 s2 _ h2 => ?_⟩
    refine ⟨by show 1 ≤ sizeLine; decide, fun a3 h3 => ?_⟩
    have s23 : Same H2 (upd H2 a3 (.tup [.int 0])) := same_new h3
    have ne1 : (List.replicate (p - 1).toNat (1 : Int)).map V.int ≠ [] := fun e => by
      have := congrArg List.length e
      rw [List.length_map, List.length_replicate] at this
      have z : ([] : List V).length = 0 := rfl
      omega
    refine ⟨a2, a3, _, _, rfl, rfl, SqT.of (s23 _ _ h2), SqT.of upd_same, ?_, fun e => absurd e ne1, fun _ e => absurd e (by simp), fun _ _ c hc => ?_⟩
    · rw [List.length_map, List.length_replicate]
      have := small1000 (n := (p - 1).toNat + 1) (by omega)
      exact Nat.le_of_lt this
    have sc : Same H2 (upd (upd H2 a3 (.tup [.int 0])) c (.tup ((List.replicate (p - 1).toNat (1 : Int)).map V.int ++ [.int 0]))) := same_add s23 hc
    generalize eH3 : upd (upd H2 a3 (.tup [.int 0])) c (.tup ((List.replicate (p - 1).toNat (1 : Int)).map V.int ++ [.int 0])) = H3 at *
    have hc3 : H3 c = some (.tup ((List.replicate (p - 1).toNat (1 : Int) ++ [0]).map V.int)) := by rw [← eH3, upd_same, List.map_append]; rfl
    refine ⟨by show 2 ≤ sizeLine; decide, fun x1 hx1 => ?_⟩
    have s34 : Same H3 (upd H3 x1 (.tup [.int 1, .ref c])) := same_new hx1
    generalize eH4 : upd H3 x1 (.tup [.int 1, .ref c]) = H4 at *
    have hx4 : H4 x1 = some (.tup [.int 1, .ref c]) := by rw [← eH4]; exact upd_same
    refine ⟨by show 1 ≤ sizeLine; decide, fun a4 h4 => ?_⟩
    have s45 : Same H4 (upd H4 a4 (.tup [.int 1])) := same_new h4
    refine ⟨_, rfl, repN_one upd_same (by omega) (by omega) fun a5 H5 s5 _ h5 => ?_⟩
    refine ⟨by show 2 ≤ sizeLine; decide, fun x2 hx2 => ?_⟩
    have s6 : Same H5 (upd H5 x2 (.tup [.int 0, .ref a5])) := same_new hx2
    refine ⟨by show 2 ≤ sizeLine; decide, fun r hr0 => ?_⟩
    have s7 : Same (upd H5 x2 (.tup [.int 0, .ref a5])) (upd (upd H5 x2 (.tup [.int 0, .ref a5])) r (.lst [.ref x1, .ref x2])) := same_new hr0
    refine ⟨by show 3 ≤ sizeLine; decide, fun y hy => ?_⟩
    have s8 : Same (upd (upd H5 x2 (.tup [.int 0, .ref a5])) r (.lst [.ref x1, .ref x2])) (upd (upd (upd H5 x2 (.tup [.int 0, .ref a5])) r (.lst [.ref x1, .ref x2])) y (.tup [.int p, .ref r, .int 0])) := same_new hy
    have s58 := Same.trans s6 (Same.trans s7 s8)
    have s48 := Same.trans s45 (Same.trans s5 s58)
    have sA : Same H H2 := Same.trans (same_new h1) s2
    refine k _ y (Same.trans sA (Same.trans sc (Same.trans s34 s48))) ⟨r, [.ref x1, .ref x2], upd_same, s8 _ _ upd_same, rfl, fun i v z e1 e2 => ?_⟩
    match i, e1, e2 with
    | 0, e1, e2 =>
      obtain rfl := Option.some.inj e1
      obtain rfl := Option.some.inj e2
      exact ⟨x1, c, rfl, s48 _ _ hx4, s48 _ _ (s34 _ _ hc3)⟩
    | 1, e1, e2 =>
      obtain rfl := Option.some.inj e1
      obtain rfl := Option.some.inj e2
      exact ⟨x2, a5, rfl, s8 _ _ (s7 _ _ upd_same), s58 _ _ h5⟩
    | i + 2, e1, e2 => exact absurd e1 (by simp)
theorem scSg : FnScope ["_law_bag_here", "_law_p", "_law_m", "_law_g"] ["_law_bag_here", "_law_p"] (defScope sSg) := ⟨rfl, rfl, rfl, by decide +kernel, rfl, by decide +kernel, by decide +kernel⟩
theorem nmSg : nmB ["_law_bag_here", "_law_p", "_law_m", "_law_g"] [("_law_bag_here", 0), ("_law_p", 1), ("_law_m", 2), ("_law_g", 3)] ["_law_odometer", "_law_pull", "_law_plain", "_law_joined", "_law_undone"] (defScope sSg) = true := by decide +kernel
end

/-! led odometers are single: no total is 0 -/
theorem OkT.z {p : Int} {M : Mach} {st : Int} (h : OkT p M st) : OkZ p M st := ⟨h.pr, h.ok, h.st0, h.st1⟩
section
variable {P : Program} {w : World} {K : PySem.W.Frag} {mg : Str → Option Value} {base : Heap} {aP : Addr} {tD : Tok} {C : Addr} {mc u : Value}
end

/-- singles with few states -/
def spSgL : Sp := fun vs H Q _ => ∃ (b l : Addr) (p : Int), vs = [.ref b, .int p] ∧ Bag H b l ∧ IsP p ∧ ∀ H' y M st, Stp b l H H' → MAt H' y p M st → OkT p M st → M.length ≤ 100 → Q (.ref y) H'
section
variable {P : Program} {w : World} {K : PySem.W.Frag} {mg : Str → Option Value} {base : Heap}
theorem ok_sgL {f : Addr} {fd : FuncData} (F : Fun K "_law_single" "_law_single" sSg f fd) (D1 : Df P w K mg base 1 "_law_odometer" ["_law_p"] spOd) (D2 : Df P w K mg base 1 "_law_pull" ["_law_bag_here", "_law_many"] spPull) (D3 : Df P w K mg base 3 "_law_plain" ["_law_bag_here", "_law_p", "_law_top"] spPlain)
    (D4 : Df P w K mg base 1 "_law_joined" ["_law_m", "_law_n"] spJoin) (D5 : Df P w K mg base 1 "_law_undone" ["_law_m"] spLUnd) : FnOk P w K mg base CX0 4 f fd ["_law_bag_here", "_law_p"] spSgL := by
  refine F.ok scSg (fun vs H Q E h => ?_) (fun cdv A outer s H vs Q E hr h => ?_)
  · obtain ⟨b, l, p, rfl, _⟩ := h
    rfl
  · obtain ⟨b, l, p, rfl, hB, hP, k⟩ := h
    have p2 := hP.two
    refine' ex_mk ?d ?_
    case d =>
      have nm := nm_of (CX := CX0) (P := P) (w := w) (K := K) (mg := mg) (base := base) (outer := outer) (H := H) (E := E) nmSg hr
      walk_at "pss"
    refine ⟨_, rfl, p, rfl, hP, fun H1 y s1 hA1 => ?_⟩
    have st1 : Stp b l H H1 := stp_same hB s1
    refine ⟨_, rfl, b, l, 4, rfl, st1.2, by decide, by decide, fun H2 d st2 d0 d1 => ?_⟩
    have hA2 := hA1.keep st1.2 st2.1
    refine ⟨_, _, rfl, rfl, _, rfl, ?_⟩
    by_cases c : d > 0
    · refine Eq.mpr (if_pos (decide_eq_true c)) ?_
      refine ⟨_, rfl, _, rfl, b, l, p, 2, rfl, st2.2, hP, by decide, by decide, fun H3 g r xs M st st3 hg0 hr0 hg hr3 hM hO m0 m1 z0 z1 => ?_⟩
      have hG3 : MAt H3 g p M st := ⟨r, xs, hg, hr3, hM⟩
      have oG : OkT p M st := ⟨hP, hO, z0, z1, by omega⟩
      refine ⟨_, rfl, g, p, M, st, rfl, hG3, oG, fun H4 y4 s4 hA4 => ?_⟩
      have ml : (undM p M).length = M.length := undM_len
      refine ⟨_, rfl, y4, y, p, undM p M, odoM p, st, 0, rfl, hA4, oG.und0, ((hA2.keep st2.2 st3.1).same s4), odo_ok hP, by rw [ml]; show M.length * 2 ≤ 200; omega, fun H5 y5 J s5 D5 hA5 => ?_⟩
      have j1 := oG.und0.join (odo_ok hP) (by rw [ml]; show M.length * 2 ≤ 200; omega) D5
      have j2 : (outJ p (undM p M) (odoM p) (st, 0) J).length ≤ M.length * 2 := by rw [← ml]; exact j1.2
      have hz : (outJ p (undM p M) (odoM p) (st, 0) J).length * M.length ≤ 200 := Nat.le_trans (Nat.mul_le_mul j2 (Nat.le_refl _)) (by
        have : M.length ≤ 2 := by omega
        exact Nat.le_trans (Nat.mul_le_mul (Nat.mul_le_mul this (Nat.le_refl 2)) this) (by decide))
      refine ⟨_, rfl, y5, g, p, _, M, 0, st, rfl, hA5, j1.1, hG3.same (Same.trans s4 s5), oG, hz, fun H6 y6 J2 s6 D6 hA6 => ?_⟩
      have j3 := j1.1.join oG hz D6
      refine ⟨_, rfl, k H6 y6 _ _ (((st1.trans st2).trans st3).same (Same.trans s4 (Same.trans s5 s6))) hA6 j3.1 (by have e1 : _ ≤ _ := j3.2; have e2 : (outJ p (undM p M) (odoM p) (st, 0) J).length * M.length ≤ (M.length * 2) * M.length := Nat.mul_le_mul j2 (Nat.le_refl _); have e3 : (M.length * 2) * M.length ≤ (2 * 2) * 2 := Nat.mul_le_mul (Nat.mul_le_mul (by omega) (Nat.le_refl 2)) (by omega); omega)⟩
    · refine Eq.mpr (if_neg (by simpa using c)) ?_
      exact ⟨_, rfl, k H2 y _ _ (st1.trans st2) hA2 (odo_ok hP) (by show 2 ≤ 100; decide)⟩
end

abbrev sGot : Stmt := top 67
/-- an own error that the law's helper catches and reads: its class, the clause's classes -/
structure CatC (K : PySem.W.Frag) (cs : List Value) (C : Addr) : Prop where
  xf : XfC K C
  nc : NoAttr K C "code"
  nd : NoAttr K C "details"
  ex : PySem.W.exmAny K (.ref C) cs = some true
/-- what was known before, and what is new -/
def joinH (Hb H H' : Hp) : Hp := fun b => if (Hb b).isSome then H' b else newOf H H' b
/-- calling the lambda comes to an outcome of which R is true: the pair of '' and the answer, or of the error's code and details -/
def OutR (K : PySem.W.Frag) (cs : List Value) (Hb : Hp) (t : Hp → VK → XK → Prop) (H0 : Hp) (R : V → Hp → Prop) : Prop := ∀ (Q : VK) (E : XK),
  (∀ v H1, Same H0 H1 → (∀ p H2, Same Hb H2 → Same (newOf H0 H1) H2 → H2 p = some (.tup [.str "", v]) → R (.ref p) H2) → Q v H1) →
  (∀ (C dd tt : Addr) (fs : List (Str × V)) (nm : Str) (H1 : Hp), Same H0 H1 → H1 dd = some (.xd fs) → fs.lookup ("code" : Str) = some (.str nm) → fs.lookup ("details" : Str) = some (.ref tt) → CatC K cs C →
    (∀ p H2, Same Hb H2 → Same (newOf H0 H1) H2 → H2 p = some (.tup [.str nm, .ref tt]) → R (.ref p) H2) → E (.ref C) (some dd) H1) → t H0 Q E
/-- f is a lambda that comes to R -/
def LamTo (P : Program) (w : World) (K : PySem.W.Frag) (mg : Str → Option Value) (base : Heap) (cs : List Value) (Hb : Hp) (f : Addr) (R : V → Hp → Prop) : Prop := ∃ t, LamOk P w K mg base 20 f t ∧ (∀ H Q E, t H Q E → ∃ F : LF, H f = some (LamO f F)) ∧ ∀ H0, Same Hb H0 → OutR K cs Hb t H0 R
def spGot (P : Program) (w : World) (K : PySem.W.Frag) (mg : Str → Option Value) (base : Heap) (cs : List Value) : Sp := fun vs H Q _ => ∃ (f : Addr) (R : V → Hp → Prop) (Hb : Hp), vs = [.ref f] ∧ Same Hb H ∧ LamTo P w K mg base cs Hb f R ∧ ∀ p H', Same H H' → H p = none → R (.ref p) (joinH Hb H H') → Q (.ref p) H'
section
variable {P : Program} {w : World} {K : PySem.W.Frag} {mg : Str → Option Value} {base : Heap} {C1 C2 C3 : Addr}
theorem scGot : FnScope ["_law_ask", "_law_said", "e"] ["_law_ask"] (defScope sGot) := ⟨rfl, rfl, rfl, by decide +kernel, rfl, by decide +kernel, by decide +kernel⟩
theorem nmGot : nmB ["_law_ask", "_law_said", "e"] [("_law_ask", 0), ("_law_said", 1)] [] (defScope sGot) = true := by decide +kernel
theorem ok_got {f : Addr} {fd : FuncData} (F : Fun K "_law_got" "_law_got" sGot f fd) (h1 : mg "TurnError" = some (.ref C1)) (h2 : mg "Missing" = some (.ref C2)) (h3 : mg "NothingLeft" = some (.ref C3)) :
    FnOk P w K mg base CX0 21 f fd ["_law_ask"] (spGot P w K mg base [.ref C1, .ref C2, .ref C3]) := by
  refine F.ok scGot (fun vs H Q E h => ?_) (fun cdv A outer s H vs Q E hr h => ?_)
  · obtain ⟨f, R, Hb, rfl, _⟩ := h
    rfl
  · obtain ⟨fl, R, Hb, rfl, hB, ⟨t, L, hF, hO⟩, k⟩ := h
    refine' ex_mk ?d ?_
    case d =>
      have nm := nm_of (CX := CX0) (P := P) (w := w) (K := K) (mg := mg) (base := base) (outer := outer) (H := H) (E := E) nmGot hr
      refine' pss_cons ?s1 (pss_cons (ps_try_asT (i := 2) rfl rfl nm.nd rfl rfl ⟨rfl, by decide, .inl h1⟩ ⟨rfl, by decide, .inl h2⟩ ⟨rfl, by decide, .inl h3⟩ takes0 (fun W pn xe tk _ => ?body) (fun a oe cls d pn hz hf => ?suite)) (pss_one (ps_ret ?r)))
      case s1 => walk_at "ps"
      case body =>
        refine' pss_one (ps_asg (pe_tup (pa_cons pe_str (pa_cons (pe_callLam (W := W) (nm.tr pn xe) ?m1 (Nat.le_refl _) tk) pa_nil))) (n_g (nm.tr pn xe) ?m2))
        case m1 => walk_at "mem"
        case m2 => walk_at "mem"
      case suite =>
        refine' pss_one (ps_asg (pe_tup (pa_cons (pe_xfA hz hf (pe_var (i := 2) rfl (.inl rfl))) (pa_cons (pe_xfA hz hf (pe_var (i := 2) rfl (.inl rfl))) pa_nil))) (pg_name (i := 1) nm.nd rfl (.inl rfl)))
      case r => walk_at "pe"
    refine ⟨by show 2 ≤ sizeLine; decide, fun p0 hp0 => ?_⟩
    have s0 : Same H (upd H p0 (.tup [.str "", .non])) := same_new hp0
    refine ⟨fl, t, rfl, ⟨L, hF⟩, hO _ (Same.trans hB s0) _ _ (fun v H1 s1 hR => ?_) (fun C dd tt fs nm H1 s1 hdd hc hd hC hR => ?_)⟩
    · refine ⟨by show 2 ≤ sizeLine; decide, fun p hp => ?_⟩
      have sE : Same H (upd H1 p (.tup [.str "", v])) := Same.trans (Same.trans s0 s1) (same_new hp)
      refine ⟨_, rfl, k p _ sE ((Same.trans s0 s1).free hp) (hR p _ (fun b o e => ?_) (fun b o e => ?_) ?_)⟩
      · have e2 := sE _ _ (hB _ _ e)
        unfold joinH
        rw [if_pos (by rw [e]; rfl)]
        exact e2
      · have e1 := newOf_old e
        have e2 := newOf_same _ _ e
        have e3 : H b = none := by
          cases q : H b with
          | none => rfl
          | some u => rw [s0 _ _ q] at e1; cases e1
        have e4 : Hb b = none := hB.free e3
        unfold joinH
        rw [if_neg (by rw [e4]; simp)]
        exact newOf_at e3 (by rw [upd_ne (ne_of_none e2 hp)]; exact e2)
      · have e3 : H p = none := (Same.trans s0 s1).free hp
        unfold joinH
        rw [if_neg (by rw [hB.free e3]; simp)]
        exact newOf_at e3 upd_same
    · refine ⟨true, hC.ex, fun _ a na => ?_, fun z => by cases z⟩
      refine ⟨_, rfl, rfl, C, dd, fs, _, rfl, hC.xf, hC.nc, rfl, hdd, hc, ?_⟩
      refine ⟨_, rfl, rfl, C, dd, fs, _, rfl, hC.xf, hC.nd, rfl, hdd, hd, ?_⟩
      refine ⟨by show 2 ≤ sizeLine; decide, fun p hp => ?_⟩
      have sE : Same H (upd H1 p (.tup [.str nm, .ref tt])) := Same.trans (Same.trans s0 s1) (same_new hp)
      refine ⟨_, rfl, k p _ sE ((Same.trans s0 s1).free hp) (hR p _ (fun b o e => ?_) (fun b o e => ?_) ?_)⟩
      · have e2 := sE _ _ (hB _ _ e)
        unfold joinH
        rw [if_pos (by rw [e]; rfl)]
        exact e2
      · have e1 := newOf_old e
        have e2 := newOf_same _ _ e
        have e3 : H b = none := by
          cases q : H b with
          | none => rfl
          | some u => rw [s0 _ _ q] at e1; cases e1
        have e4 : Hb b = none := hB.free e3
        unfold joinH
        rw [if_neg (by rw [e4]; simp)]
        exact newOf_at e3 (by rw [upd_ne (ne_of_none e2 hp)]; exact e2)
      · have e3 : H p = none := (Same.trans s0 s1).free hp
        unfold joinH
        rw [if_neg (by rw [hB.free e3]; simp)]
        exact newOf_at e3 upd_same
end

/-- an outcome: the error's name and its details -/
def dR (K : PySem.W.Frag) (nm : Str) (ds : List PyData) : V → Hp → Prop := fun x H => Dp K H x (.tuple [.str nm, .tuple ds])
/-- an error out of a lambda's body -/
theorem out_err {K : PySem.W.Frag} {cls : List Value} {C : Addr} {nm : Str} {ds : List PyData} {cs : Cells} {Hb H0 : Hp} {E : XK} (l : Lent cs H0) (hC : CatC K cls C)
    (hE : ∀ (C dd tt : Addr) (fs : List (Str × V)) (nm' : Str) (H1 : Hp), Same H0 H1 → H1 dd = some (.xd fs) → fs.lookup ("code" : Str) = some (.str nm') → fs.lookup ("details" : Str) = some (.ref tt) → CatC K cls C → (∀ p H2, Same Hb H2 → Same (newOf H0 H1) H2 → H2 p = some (.tup [.str nm', .ref tt]) → dR K nm ds (.ref p) H2) → E (.ref C) (some dd) H1) :
    ErrAt K C nm ds (unlend cs H0) fun cls d H1 => NoC cs H1 → E cls d (lend cs H1) := by
  intro dd tt fs H' sm hd0 hd hc hde hdp nc
  have out : ∀ b o, H' b = some o → cs.lookup b = none := fun b o e => by
    cases q : cs.lookup b with
    | none => rfl
    | some ob => rw [nc b ob q] at e; cases e
  refine hE C dd tt fs nm (lend cs H') (lend_unlend_same l sm) (by rw [lend_out (out _ _ hd)]; exact hd) hc hde hC fun p H2 _ s2 hp => ?_
  refine .tup (SqT.of hp) (.cons (.str _) (.cons (dp_same (fun b o z => ?_) _ _ hdp) .nil))
  have e1 := newOf_old z
  have e2 := newOf_same _ _ z
  have e3 := out _ _ e2
  rw [unlend_out e3] at e1
  exact s2 _ _ (newOf_at e1 (by rw [lend_out e3]; exact e2))
/-- a lambda by its reading -/
theorem lamTo_of {P : Program} {w : World} {K : PySem.W.Frag} {mg : Str → Option Value} {base : Heap} {cls : List Value} {k : Nat} {Hb : Hp} {f : Addr} {R : V → Hp → Prop} {F : LF} {N ps fr : List Str} {vs : List V} {tb : XK → TE} {cs : Cells} {ws : List (Option V)} (hk : k ≤ 20) (L : LamOk P w K mg base k f (tLamRun f F N ps fr vs tb)) (hf : Hb f = some (LamO f F)) (hc : Hb F.c = some (LamX.CodeO F.c F.qual))
    (hB : ∀ H0, Same Hb H0 → LBinds F ps vs H0) (lt : Lent cs Hb) (lf : LentFor F.cl fr ws cs)
    (h : ∀ (H0 : Hp) (Q : VK) (E : XK), Same Hb H0 → Lent cs H0 → (∀ v H1, Same H0 H1 → (∀ p H2, Same Hb H2 → Same (newOf H0 H1) H2 → H2 p = some (.tup [.str "", v]) → R (.ref p) H2) → Q v H1) →
      (∀ (C dd tt : Addr) (fs : List (Str × V)) (nm : Str) (H1 : Hp), Same H0 H1 → H1 dd = some (.xd fs) → fs.lookup ("code" : Str) = some (.str nm) → fs.lookup ("details" : Str) = some (.ref tt) → CatC K cls C → (∀ p H2, Same Hb H2 → Same (newOf H0 H1) H2 → H2 p = some (.tup [.str nm, .ref tt]) → R (.ref p) H2) → E (.ref C) (some dd) H1) →
      tb (fun cls d H1 => NoC cs H1 → E cls d (lend cs H1)) (NdefX.startF N vs ws) (unlend cs H0) fun v H1 => NoC cs H1 → Q v (lend cs H1)) : LamTo P w K mg base cls Hb f R :=
  ⟨_, L.mono hk, fun H Q E z => ⟨F, z.1⟩, fun H0 s0 Q E hQ hE => ⟨s0 _ _ hf, s0 _ _ hc, hB H0 s0, cs, ws, lt.same s0, lf, h H0 Q E s0 (lt.same s0) hQ hE⟩⟩
theorem good_int {n : Nat} {i : Int} (h : decide (i.natAbs.log2 < 1920) = true) : GoodD n (.int i) 2000 := by
  cases n <;> exact ⟨of_decide_eq_true h, by decide⟩
theorem good_small {n : Nat} {i : Int} (h0 : 0 ≤ i) (h1 : i < 1000) : GoodD n (.int i) 2000 := good_int (by
  have e : i.natAbs < 2 ^ 1920 := Nat.lt_of_lt_of_le (by omega : i.natAbs < 1000) (by decide +kernel)
  refine decide_eq_true ?_
  by_cases z : i.natAbs = 0
  · rw [z]; decide
  · exact (Nat.log2_lt z).mpr e)
abbrev sCCt : Stmt := top 26
def spCCe (K : PySem.W.Frag) (CC : Addr) : Sp := fun vs H Q E => ∃ (z : V) (lo hi : Int), vs = [z, .int lo, .int hi] ∧ ((∃ k, z = .int k ∧ lo ≤ k ∧ k ≤ hi ∧ Q .non H) ∨ ∃ d, Tell K H z d ∧ (∀ k, z = .int k → ¬ (lo ≤ k ∧ k ≤ hi)) ∧ ErrAt K CC "InvalidCount" [d] H E)
section
variable {P : Program} {w : World} {K : PySem.W.Frag} {mg : Str → Option Value} {base : Heap} {aP : Addr} {tD : Tok} {CI CS CC : Addr}
theorem scCCt : FnScope ["value", "least", "most"] ["value", "least", "most"] (defScope sCCt) := ⟨rfl, rfl, rfl, by decide +kernel, rfl, by decide +kernel, by decide +kernel⟩
theorem nmCCt : nmB ["value", "least", "most"] [("value", 0), ("least", 1), ("most", 2)] ["is_number", "InvalidCount"] (defScope sCCt) = true := by decide +kernel
theorem ok_cce {f : Addr} {fd : FuncData} (F : Fun K "check_count" "check_count" sCCt f fd) (D : Df P w K mg base 1 "is_number" ["value"] (spNum K)) (KI : Ke P w K mg base 10 "InvalidCount" CC "InvalidCount" ["self", "given"] (vs1 K)) :
    FnOk P w K mg base (L2.CX P w) 12 f fd ["value", "least", "most"] (spCCe K CC) := by
  refine F.okX scCCt (fun vs H Q E h => ?_) (fun cdv A outer s H vs Q E hr h => ?_)
  · obtain ⟨z, lo, hi, rfl, _⟩ := h
    rfl
  · obtain ⟨z, lo, hi, rfl, h⟩ := h
    refine' ex_mk ?d ?_
    case d =>
      have nm := (nm_of (CX := L2.CX P w) (P := P) (w := w) (K := K) (mg := mg) (base := base) (outer := outer) (H := H) (E := E) nmCCt hr).xe
      refine' pss_one (ps_if ?c1 (pss_one (ps_raise rfl (takes_of rfl rfl rfl rfl) (n_ke nm KI (by decide) ?g (pa_cons ?a pa_nil)))) pss_nil)
      case c1 => walk_at "pt"
      case g => walk_at "mem"
      case a => walk_at "pe"
    have bad : ∀ d, Tell K H z d → ErrAt K CC "InvalidCount" [d] H E → tKe K CC "InvalidCount" (vs1 K) (tCons (tVar 0) tNil) (L2.start ["value", "least", "most"] [z, .int lo, .int hi]) H fun cls d H' => E cls d H' := fun d hT hE =>
      ⟨z, rfl, ke_ok (by show 1 ≤ 1000; decide) hT.vs hE⟩
    rcases h with ⟨k, rfl, h0, h1, q⟩ | ⟨d, hT, hn, hE⟩
    · refine ⟨_, rfl, _, _, rfl, kd_int k, _, rfl, ?_⟩
      refine iteF ?_
      refine ⟨_, rfl, _, rfl, _, _, rfl, rfl, _, rfl, ?_⟩
      rw [decide_eq_true h0]
      refine iteT ?_
      refine ⟨_, rfl, _, _, rfl, rfl, _, rfl, ?_⟩
      rw [decide_eq_true h1]
      exact iteF q
    · obtain ⟨T, hk⟩ := kd_dp hT.choose_spec.1
      refine ⟨_, rfl, z, T, rfl, hk, _, rfl, ?_⟩
      by_cases c : T = "int"
      · subst c
        obtain ⟨i, rfl⟩ := hk.ofInt
        rw [decide_eq_true rfl]
        refine iteF ?_
        refine ⟨_, rfl, _, rfl, _, _, rfl, rfl, _, rfl, ?_⟩
        by_cases c0 : lo ≤ i
        · rw [decide_eq_true c0]
          refine iteT ?_
          refine ⟨_, rfl, _, _, rfl, rfl, _, rfl, ?_⟩
          rw [decide_eq_false fun c1 => hn i rfl ⟨c0, c1⟩]
          exact iteT (bad d hT hE)
        · rw [decide_eq_false c0]
          refine iteF ?_
          refine ⟨_, rfl, ?_⟩
          exact iteT (bad d hT hE)
      · rw [decide_eq_false c]
        exact iteT (bad d hT hE)
end

theorem small2000 {n : Nat} (h : n ≤ 2000) : n < sizeLine := Nat.lt_of_le_of_lt h (by rw [sizeLine_eq]; decide)
/-- rows are lists of ints -/
def RowsI (H : Hp) (xs : List V) (css : List (List Int)) : Prop := xs.length = css.length ∧ ∀ (i : Nat) v cs, xs[i]? = some v → css[i]? = some cs → ∃ a, v = .ref a ∧ H a = some (.lst (cs.map V.int))
theorem RowsI.same {H H' : Hp} {xs : List V} {css : List (List Int)} (h : RowsI H xs css) (e : Same H H') : RowsI H' xs css := ⟨h.1, fun i v cs h1 h2 => by
  obtain ⟨a, rfl, h3⟩ := h.2 i v cs h1 h2
  exact ⟨a, rfl, e _ _ h3⟩⟩
def spC0 : Sp := fun vs H Q _ => ∃ (v : V), vs = [v] ∧ ((∃ d, v = .int d) ∨ v = .non) ∧ Q v H
def spC1 : Sp := fun vs H Q _ => ∃ (a : Addr) (ds : List Int), vs = [.ref a] ∧ H a = some (.lst (ds.map V.int)) ∧ ds.length ≤ 1000 ∧ ∀ H' r, Same H H' → H r = none → H' r = some (.lst (ds.map V.int)) → Q (.ref r) H'
def spC2 : Sp := fun vs H Q _ => ∃ (a : Addr) (xs : List V) (css : List (List Int)), vs = [.ref a] ∧ H a = some (.lst xs) ∧ RowsI H xs css ∧ xs.length ≤ 2000 ∧ (∀ cs ∈ css, cs.length ≤ 1000) ∧ ∀ H' r ys, Same H H' → H r = none → H' r = some (.lst ys) → RowsI H' ys css → Q (.ref r) H'
section
variable {P : Program} {w : World} {K : PySem.W.Frag} {mg : Str → Option Value} {base : Heap} {aP : Addr} {tD : Tok} {C : Addr} {mc u : Value}
theorem ok_c0 {f : Addr} {fd : FuncData} (F : Fun K "copied" "copied" sCp f fd) (B : Bn mg) : FnOk P w K mg base CX0 1 f fd ["value"] spC0 := by
  refine F.ok scCp (fun vs H Q E h => ?_) (fun cdv A outer s H vs Q E hr h => ?_)
  · obtain ⟨v, rfl, _⟩ := h
    rfl
  · obtain ⟨v, rfl, hv, k⟩ := h
    obtain ⟨b1, b2, b3, b4, b5, b6, b7, b8, b9, b10, b11⟩ := B
    refine' ex_mk ?d ?_
    case d =>
      have nm := nm_of (CX := CX0) (P := P) (w := w) (K := K) (mg := mg) (base := base) (outer := outer) (H := H) (E := E) nmCp hr
      refine' pss_cons (ps_if ?c1 (pss_one ps_never) pss_nil) (pss_cons (ps_if ?c2 (pss_one ps_never) pss_nil) (pss_one ?ret))
      case c1 => walk_at "pt"
      case c2 => walk_at "pt"
      case ret => walk_at "ps"
    have ty : ∃ T, TyX K H v (.type T) ∧ kitB T "list" = some false ∧ kitB T "tuple" = some false := by
      rcases hv with ⟨d, rfl⟩ | rfl
      · exact ⟨"int", .base (.int d), by decide +kernel, by decide +kernel⟩
      · exact ⟨"NoneType", .base .non, by decide +kernel, by decide +kernel⟩
    obtain ⟨T, ty, k1, k2⟩ := ty
    refine ⟨_, rfl, _, _, _, _, _, rfl, .ty "list", ty, kit_ty k1, _, rfl, ?_⟩
    refine iteF ?_
    refine ⟨_, rfl, _, _, _, _, _, rfl, .ty "tuple", ty, kit_ty k2, _, rfl, ?_⟩
    refine iteF ?_
    exact ⟨_, rfl, k⟩
theorem ok_c1 {f : Addr} {fd : FuncData} (F : Fun K "copied" "copied" sCp f fd) (B : Bn mg) (D : Df P w K mg base 1 "copied" ["value"] spC0) : FnOk P w K mg base CX0 2 f fd ["value"] spC1 := by
  refine F.ok scCp (fun vs H Q E h => ?_) (fun cdv A outer s H vs Q E hr h => ?_)
  · obtain ⟨a, ds, rfl, _⟩ := h
    rfl
  · obtain ⟨a, ds, rfl, ha, hz, k⟩ := h
    obtain ⟨b1, b2, b3, b4, b5, b6, b7, b8, b9, b10, b11⟩ := B
    refine' ex_mk ?d ?_
    case d =>
      have nm := nm_of (CX := CX0) (P := P) (w := w) (K := K) (mg := mg) (base := base) (outer := outer) (H := H) (E := E) nmCp hr
      refine' pss_cons (ps_if ?c1 (pss_one (ps_ret ?lc)) pss_nil) (pss_cons (ps_if ?c2 (pss_one ps_never) pss_nil) (pss_one ?ret))
      case c1 => walk_at "pt"
      case c2 => walk_at "pt"
      case ret => walk_at "ps"
      case lc =>
        refine' n_lc (own := [("item", 1)]) (g := gName 1) (NS' := [("item", 1)]) (WS' := [("item", 1)]) (G' := ["copied"]) (N := ["value", "item"]) (scD := defScope sCp) nm rfl rfl (by decide +kernel) (by decide +kernel) (pi_list ?li) (fun X' nm2 => ?lg) (fun X' nm2 => ?le)
        case li => walk_at "pe"
        case lg => walk_at "pg"
        case le =>
          refine' n_d nm2 D (by decide) ?ug ?ua
          case ug => walk_at "mem"
          case ua => walk_at "pa"
    refine ⟨_, rfl, _, _, _, _, _, rfl, .ty "list", .base (.lst ha), kit_ty (by decide +kernel : kitB "list" "list" = some true), _, rfl, ?_⟩
    refine iteT ?_
    refine ⟨_, rfl, a, rfl, ⟨_, SqL.of ha⟩, fun Dl hD => ?_⟩
    refine lc_seq (fs := ds.map V.int) (sj_L fun H5 s5 => SqL.of (s5 _ _ ha)) hD rfl (small1000 (by rw [List.length_map]; exact hz)) ?_ ?_ gm_nm
    · intro j y z H5 Qk hy hz s5 kk
      rw [hy] at hz
      obtain rfl := Option.some.inj hz
      obtain ⟨d, hd, rfl⟩ := ints_at hy
      exact ⟨rfl, _, rfl, _, rfl, .inl ⟨d, rfl⟩, kk _ fun _ _ e => e⟩
    · intro H2 s2 hDl
      exact k H2 Dl s2 hD hDl
theorem ok_c2 {f : Addr} {fd : FuncData} (F : Fun K "copied" "copied" sCp f fd) (B : Bn mg) (D : Df P w K mg base 2 "copied" ["value"] spC1) : FnOk P w K mg base CX0 3 f fd ["value"] spC2 := by
  refine F.ok scCp (fun vs H Q E h => ?_) (fun cdv A outer s H vs Q E hr h => ?_)
  · obtain ⟨a, xs, css, rfl, _⟩ := h
    rfl
  · obtain ⟨a, xs, css, rfl, ha, hR, hz, hzs, k⟩ := h
    obtain ⟨b1, b2, b3, b4, b5, b6, b7, b8, b9, b10, b11⟩ := B
    refine' ex_mk ?d ?_
    case d =>
      have nm := nm_of (CX := CX0) (P := P) (w := w) (K := K) (mg := mg) (base := base) (outer := outer) (H := H) (E := E) nmCp hr
      refine' pss_cons (ps_if ?c1 (pss_one (ps_ret ?lc)) pss_nil) (pss_cons (ps_if ?c2 (pss_one ps_never) pss_nil) (pss_one ?ret))
      case c1 => walk_at "pt"
      case c2 => walk_at "pt"
      case ret => walk_at "ps"
      case lc =>
        refine' n_lc (own := [("item", 1)]) (g := gName 1) (NS' := [("item", 1)]) (WS' := [("item", 1)]) (G' := ["copied"]) (N := ["value", "item"]) (scD := defScope sCp) nm rfl rfl (by decide +kernel) (by decide +kernel) (pi_list ?li) (fun X' nm2 => ?lg) (fun X' nm2 => ?le)
        case li => walk_at "pe"
        case lg => walk_at "pg"
        case le =>
          refine' n_d nm2 D (by decide) ?ug ?ua
          case ug => walk_at "mem"
          case ua => walk_at "pa"
    refine ⟨_, rfl, _, _, _, _, _, rfl, .ty "list", .base (.lst ha), kit_ty (by decide +kernel : kitB "list" "list" = some true), _, rfl, ?_⟩
    refine iteT ?_
    refine ⟨_, rfl, a, rfl, ⟨_, SqL.of ha⟩, fun Dl hD => ?_⟩
    have J := sj_L (K := K) (a := a) (xs := xs) (S := Same H) fun H5 s5 => SqL.of (s5 _ _ ha)
    refine lcB (K := K) (xs := xs) (R := fun i y H' => ∀ cs, css[i]? = some cs → ∃ r, y = .ref r ∧ r ≠ Dl ∧ H' r = some (.lst (cs.map V.int))) hD (small2000 hz)
      (fun H2 j s2 hj => J.go H2 j _ s2 (List.getElem?_eq_getElem hj)) (fun H2 s2 => J.stop H2 s2) (fun i y H2 H3 e h cs hcs => ?_) (fun i y H2 zs h cs hcs => ?_) ?_ ?_ gm_nm
    · obtain ⟨r, e1, e2, e3⟩ := h cs hcs
      exact ⟨r, e1, e2, e _ _ e3⟩
    · obtain ⟨r, e1, e2, e3⟩ := h cs hcs
      exact ⟨r, e1, e2, by rw [upd_ne e2]; exact e3⟩
    · intro j x H2 v H3 Qk hx s2 hDl hy kk
      obtain ⟨rfl, hv⟩ := J.yl H2 j v H3 s2 hy
      have hj : j < css.length := by rw [← hR.1]; exact (List.getElem?_eq_some_iff.mp hv).1
      have hcs : css[j]? = some css[j] := List.getElem?_eq_getElem hj
      obtain ⟨b, rfl, hb⟩ := hR.2 j v _ hv hcs
      obtain ⟨zs, hDl⟩ := hDl
      refine ⟨rfl, _, rfl, b, css[j], rfl, s2 _ _ hb, hzs _ (List.getElem_mem hj), fun H4 r s4 hr0 hr => ?_⟩
      refine kk _ H4 s4 fun cs h => ?_
      rw [hcs] at h
      obtain rfl := Option.some.inj h
      have nr : r ≠ Dl := fun e => by
        rw [e, hDl] at hr0
        cases hr0
      exact ⟨r, rfl, nr, hr⟩
    · intro ys H2 s2 hDl hl hRs
      refine k H2 Dl ys s2 hD hDl ⟨by rw [hl, hR.1], fun i v cs h1 h2 => ?_⟩
      obtain ⟨r, e1, _, e3⟩ := hRs i v h1 cs h2
      exact ⟨r, e1, e3⟩
theorem mono_c2 {vs : List V} {H : Hp} {Q Q' : VK} {E : XK} (h : ∀ v H, Q v H → Q' v H) (q : spC2 vs H Q E) : spC2 vs H Q' E := by
  obtain ⟨a, xs, css, e, h1, h2, h3, h4, k⟩ := q
  exact ⟨a, xs, css, e, h1, h2, h3, h4, fun H' r ys a1 a2 a3 a4 => h _ _ (k H' r ys a1 a2 a3 a4)⟩
end

abbrev sAi : Stmt := inClass (top 39) 0
/-- what of the text the class of an answer has -/
structure Ac (K : PySem.W.Frag) (C : Addr) : Prop where
  cl : Cls K C
  nT : NoAttr K C "_turner"
  nC : NoAttr K C "_counts"
def af (tu : V) : List (Str × V) := putF "_turner" tu []
def spAi (C : Addr) : Sp := fun vs H Q _ => ∃ (x dx : Addr) (tu : V), vs = [.ref x, tu] ∧ H x = some (.ins C dx []) ∧ Q .non (upd H x (.ins C dx (af tu)))
section
variable {P : Program} {w : World} {K : PySem.W.Frag} {mg : Str → Option Value} {base : Heap} {aP : Addr} {tD : Tok} {C : Addr} {mc u : Value}
theorem scAi : FnScope ["self", "turner"] ["self", "turner"] (defScope sAi) := ⟨rfl, rfl, rfl, by decide +kernel, rfl, by decide +kernel, by decide +kernel⟩
theorem nmAi : nmB ["self", "turner"] [("self", 0), ("turner", 1)] [] (defScope sAi) = true := by decide +kernel
theorem ok_ai {f : Addr} {fd : FuncData} (F : Fun K "__init__" "Answer.__init__" sAi f fd) (T : Ac K C) : FnOk P w K mg base CX0 1 f fd ["self", "turner"] (spAi C) := by
  refine F.ok scAi (fun vs H Q E h => ?_) (fun cdv A outer s H vs Q E hr h => ?_)
  · obtain ⟨x, dx, tu, rfl, _⟩ := h
    rfl
  · obtain ⟨x, dx, tu, rfl, hx, k⟩ := h
    refine' ex_mk ?d ?_
    case d =>
      have nm := nm_of (CX := CX0) (P := P) (w := w) (K := K) (mg := mg) (base := base) (outer := outer) (H := H) (E := E) nmAi hr
      walk_at "pss"
    exact ⟨_, rfl, _, rfl, x, C, dx, [], rfl, hx, T.cl, T.nT, by show 0 < 1000; decide, k⟩
end

/-- x(e, ..), parameters behind the first by their defaults -/
structure Dfd (P : Program) (w : World) (K : PySem.W.Frag) (mg : Str → Option Value) (base : Heap) (k : Nat) (x : Str) (ps : List Str) (dvs : List V) (sp : Sp) : Prop where
  ex : ∃ f fd ds, mg x = some (.ref f) ∧ PySem.W.keepIn K (.ref f) = true ∧ Vals dvs ds ∧ Binds K fd ps ds ∧ FnOk P w K mg base CX0 k f fd ps sp
/-- C(e, ..), no defaults -/
structure Kdn (P : Program) (w : World) (K : PySem.W.Frag) (mg : Str → Option Value) (base : Heap) (k : Nat) (C : Addr) (ps : List Str) (sp : Sp) : Prop where
  ex : ∃ f fd, Mk K C f ∧ Binds K fd ps [] ∧ FnOk P w K mg base CX0 k f fd ps sp
theorem n_mkN {P : Program} {w : World} {K : PySem.W.Frag} {mg : Str → Option Value} {base : Heap} {j k : Nat} {X : Cx} {NS WS : List (Str × Nat)} {G : List Str} {x : Str} {p pos : Pos} {e : Expr} {es : List Expr} {t : TA} {ps : List Str} {sp : Sp} {C : Addr} (h : Nm P w K mg base j X NS WS G) (hm : mg x = some (.ref C)) (M : Kdn P w K mg base k C ps sp) (hk : k + 1 ≤ j) (hg : x ∈ G) (ha : PA X (e :: es) t)
    (he : starEach (e :: es) X.env = (false, eval e X.env) :: starEach es X.env := by rfl) (hpl : (backTo pos (starEach es X.env)).any (·.1) = false := by rfl) : PE X (.Call (.Name x p) (e :: es) [] pos) (tMake C sp [] E0 t) := by
  obtain ⟨h1, h2, h3, h4, h5, hr, _, _, _, _, hgl⟩ := h
  subst h1 h2 h3 h4 h5
  obtain ⟨f, fd, hM, hb, F⟩ := M.ex
  exact pe_make hM F (hr.mono hk) (hgl x hg).1 hm hb .nil pass0 ha (hgl x hg).2.1 he hpl
/-- a Split of the turner at x with these counts -/
def trail (p : Int) (M : Mach) (st : Int) (n : Nat) : List (List Int) := (List.range n).map (itC p M st)
theorem trail_at {p : Int} {M : Mach} {st : Int} {n i : Nat} (h : i < n) : (trail p M st n)[i]? = some (itC p M st i) := by
  unfold trail
  rw [List.getElem?_map, List.getElem?_range h]; rfl
theorem trail_len {p : Int} {M : Mach} {st : Int} {n : Nat} : (trail p M st n).length = n := by unfold trail; rw [List.length_map, List.length_range]
section
variable {P : Program} {w : World} {K : PySem.W.Frag} {mg : Str → Option Value} {base : Heap} {aP : Addr} {tD : Tok} {C S : Addr} {mc u : Value}
end

abbrev sNi : Stmt := inClass (top 40) 0
/-- what of the text the class of a Single has -/
structure Bc (K : PySem.W.Frag) (C : Addr) : Prop where
  a : Ac K C
  nB : NoAttr K C "_back"
def fsN (tu r b : V) : List (Str × V) := putF "_back" b (putF "_counts" r (af tu))
def spNi (C : Addr) : Sp := fun vs H Q _ => ∃ (x dx : Addr) (tu v : V) (i : Int), vs = [.ref x, tu, v, .int i] ∧ H x = some (.ins C dx []) ∧
  spC2 [v] (upd H x (.ins C dx (af tu))) (fun r H2 => H2 x = some (.ins C dx (af tu)) ∧ Q .non (upd (upd H2 x (.ins C dx (putF "_counts" r (af tu)))) x (.ins C dx (fsN tu r (.int i))))) E0
section
variable {P : Program} {w : World} {K : PySem.W.Frag} {mg : Str → Option Value} {base : Heap} {aP : Addr} {tD : Tok} {C : Addr} {mc u : Value}
theorem scNi : NdefX.NScope ["self", "turner", "counts", "back", "__class__"] ["self", "turner", "counts", "back"] ["__class__"] (defScope sNi) := NdefX.nscope_by (by decide +kernel)
theorem nmNi : nmB ["self", "turner", "counts", "back", "__class__"] [("self", 0), ("turner", 1), ("counts", 2), ("back", 3)] ["copied"] (defScope sNi) = true := by decide +kernel
theorem af_len (r tu : V) : (putF "_counts" r (af tu)).length < 1000 := by
  refine Nat.lt_of_le_of_lt (m := 2) ?_ (by decide)
  unfold af putF
  simp [putF]
  try (split <;> simp)
theorem ok_ni {f cc cda fA : Addr} {fd fdA : FuncData} (FC : FunO P K mg "__init__" "Single.__init__" sNi f C cc cda fd fA) (FA : Fun K "__init__" "Answer.__init__" sAi fA fdA) (T : Bc K C) (D : Df P w K mg base 3 "copied" ["value"] spC2) (D0 : Df P w K mg base 1 "copied" ["value"] spC0) : FnOk P w K mg base CX0 4 f fd ["self", "turner", "counts", "back"] (spNi C) := by
  have OA := ok_ai (P := P) (w := w) (mg := mg) (base := base) FA T.a
  have bA := FA.binds (ps := ["self", "turner"]) fun _ _ _ _ _ _ us hl => match us, hl with | [_, _], _ => rfl
  have RA : FnR P w K mg base CX0 1 fA (spAi C) := (OA.raw bA .nil).imp fun vs H Q E h => by rw [List.append_nil]; exact h
  refine funO_ok (k := 3) FC RA (by decide) scNi rfl (fun vs H Q E h => ?_) rfl fun A outer s H vs Q E hr h => ?_
  · obtain ⟨x, dx, tu, v, i, rfl, _⟩ := h
    rfl
  · obtain ⟨x, dx, tu, v, i, rfl, hx, k⟩ := h
    have nm := nm_ncx (CX := CX0) (P := P) (w := w) (K := K) (mg := mg) (base := base) (N := ["self", "turner", "counts", "back", "__class__"]) (F := nfOf "__init__" "Single.__init__" sNi cc cda) (f := f) (A := A) (outer := outer) (s := s) (H := H) (E := E) nmNi (NdefX.nscope_by (by decide +kernel) : NdefX.NScope ["self", "turner", "counts", "back", "__class__"] ["self", "turner", "counts", "back"] ["__class__"] (defScope sNi)).nocell hr
    refine' ⟨x, dx, [], _, _, _, rfl, hx, ⟨rfl, rfl, rfl, rfl, rfl⟩, ?pa, ?ps, ?go⟩
    case pa => walk_at "pa"
    case ps =>
      refine' pss_cons (ps_fld ?e1 (n_d nm D (by decide) ?g1 (pa_cons ?a1 pa_nil)) (by rfl)) (pss_one (ps_fld ?e2 (n_d nm D0 (by decide) ?g2 (pa_cons ?a2 pa_nil)) (by rfl)))
      case e1 => walk_at "pe"
      case g1 => walk_at "mem"
      case a1 => walk_at "pe"
      case e2 => walk_at "pe"
      case g2 => walk_at "mem"
      case a2 => walk_at "pe"
    case go =>
      intro Pc hPc
      refine ⟨_, rfl, x, dx, tu, rfl, hx, hPc _ ?_⟩
      refine ⟨_, rfl, ?_⟩
      dsimp only [tNil]
      refine mono_c2 (fun r H2 q => ?_) k
      refine ⟨_, rfl, x, C, dx, _, rfl, q.1, T.a.cl, T.a.nC, by show 1 < 1000; decide, ?_⟩
      refine ⟨_, rfl, .int i, rfl, .inl ⟨i, rfl⟩, ?_⟩
      exact ⟨_, rfl, x, C, dx, _, rfl, upd_same, T.a.cl, T.nB, af_len r tu, q.2⟩
end

abbrev sTrl : Stmt := top 37
/-! are_counts of any list of whole numbers -/
def areB (p : Int) (n : Nat) (ds : List Int) : Bool := decide (ds.length = n) && (ds.map fun d => belowV (.int d) p).all id
def spAreB (C : Addr) : Sp := fun vs H Q _ => ∃ (x a : Addr) (p : Int) (M : Mach) (st : Int) (ds : List Int), vs = [.ref x, .ref a] ∧ TurAt C H x p M st ∧ OkT p M st ∧ H a = some (.lst (ds.map V.int)) ∧ ds.length ≤ 1000 ∧ ∀ H', Same H H' → Q (.bl (areB p M.length ds)) H'
section
variable {P : Program} {w : World} {K : PySem.W.Frag} {mg : Str → Option Value} {base : Heap} {aP : Addr} {tD : Tok} {C : Addr} {mc u : Value}
theorem ok_areB {f : Addr} {fd : FuncData} (F : Fun K "are_counts" "are_counts" sAre f fd) (B : Bn mg) (T : Tc K C) (D : Df P w K mg base 2 "is_below" ["value", "bound"] (spBel K)) (E4 : Pf P w K mg base 1 C "prime" ["self"] (getSp C "_prime")) (O2 : Ol P w K mg base 1 C ["self"] (spLen C)) : FnOk P w K mg base CX0 3 f fd ["turner", "value"] (spAreB C) := by
  refine F.ok scAre (fun vs H Q E h => ?_) (fun cdv A outer s H vs Q E hr h => ?_)
  · obtain ⟨x, a, p, M, st, ds, rfl, _⟩ := h
    rfl
  · obtain ⟨x, a, p, M, st, cs, rfl, hT, hO, ha, hc, k⟩ := h
    have hl := hO.le
    have hcl := T.cl
    obtain ⟨b1, b2, b3, b4, b5, b6, b7, b8, b9, b10, b11⟩ := B
    refine' ex_mk ?d ?_
    case d =>
      have nm := nm_of (CX := CX0) (P := P) (w := w) (K := K) (mg := mg) (base := base) (outer := outer) (H := H) (E := E) nmAre hr
      refine' pss_cons (ps_if (PW.pt (pw_or ?c1 (pw_or1 (pt_cmpR op_ne (n_len nm (by walk_at "as") ?g1 (pa_cons ?c2 pa_nil)) (n_lenO nm (by walk_at "as") ?g2 O2 (by decide) (pa_cons ?c3 pa_nil)) (nomark _))))) (pss_one (ps_ret pe_bl)) pss_nil)
        (pss_one (ps_ret (n_b (x := "all") nm (by walk_at "as") (cr_all nm.calm) PyProof.Rows.boot_all ?bg (pa_cons ?lc pa_nil))))
      case c1 => walk_at "pt"
      case g1 => walk_at "mem"
      case g2 => walk_at "mem"
      case c2 => walk_at "pe"
      case c3 => walk_at "pe"
      case bg => walk_at "mem"
      case lc =>
        refine' n_lc (own := [("count", 2)]) (g := gName 2) (NS' := [("turner", 0), ("count", 2)]) (WS' := [("count", 2)]) (G' := ["is_below"]) (N := ["turner", "value", "count"]) (scD := defScope sAre) nm rfl rfl (by decide +kernel) (by decide +kernel) (pi_list ?li) (fun X' nm2 => ?lg) (fun X' nm2 => n_d nm2 D (by decide) ?e0 (pa_cons ?e1 (pa_cons (n_p nm2 hcl E4 (by decide) ?e2) pa_nil)))
        case li => walk_at "pe"
        case lg => walk_at "pg"
        case e0 => walk_at "mem"
        case e1 => walk_at "pe"
        case e2 => walk_at "pe"
    have hll : (cs.map V.int).length = cs.length := List.length_map _
    refine ⟨_, rfl, by show 2 ≤ sizeLine; decide, fun q hq => ?_⟩
    have s0 : Same H (upd H q (.tup [.ty "list", .ty "tuple"])) := same_new hq
    generalize eH0 : upd H q (.tup [.ty "list", .ty "tuple"]) = H0 at *
    have hq0 : H0 q = some (.tup [.ty "list", .ty "tuple"]) := by rw [← eH0]; exact upd_same
    have hT0 := hT.same s0
    have ha := s0 _ _ ha
    refine ⟨_, q, _, _, _, _, rfl, hq0, .cons (.ty "list") (.cons (.ty "tuple") .nil), ty_l (SqL.of ha), kitAny_cons (kit_ty (by decide +kernel : kitB "list" "list" = some true)) (fun z => nomatch z) (fun _ => rfl), _, rfl, ?_⟩
    refine iteF ?_
    refine ⟨_, rfl, a, _, rfl, .inl (SqL.of ha), _, rfl, ?_⟩
    dsimp only [tNil]
    refine len_q hT0 hO ?_
    refine ⟨rfl, _, rfl, ?_⟩
    by_cases cl : cs.length = M.length
    · rw [show decide (V.int ((cs.map V.int).length : Int) = V.int (M.length : Nat)) = true from decide_eq_true (by rw [hll, cl])]
      refine iteF ?_
      refine ⟨_, rfl, a, rfl, ⟨_, SqL.of ha⟩, fun Dl hD => ?_⟩
      refine lc_seq (fs := (cs.map fun d => belowV (.int d) p).map V.bl) (sj_L fun H1 s1 => SqL.of (s1 _ _ ha)) hD (by simp) (small1000 (by rw [hll]; omega)) ?_ ?_ gm_name
      · intro j x' z H1 Qk hx hz s1 kk
        obtain ⟨d, hd, rfl⟩ := ints_at hx
        rw [List.getElem?_map, List.getElem?_map, hd] at hz
        obtain rfl := Option.some.inj hz
        exact ⟨rfl, _, rfl, _, rfl, prm_q (K := K) (hT0.same s1) ⟨_, _, _, rfl, kd_int d, kk _ (fun _ _ e => e)⟩⟩
      · intro H1 s1 hDl
        refine ⟨Dl, _, rfl, SqL.of hDl, ?_⟩
        have := k H1 (Same.trans s0 s1)
        unfold areB at this
        rw [decide_eq_true cl, Bool.true_and] at this
        exact this
    · rw [show decide (V.int ((cs.map V.int).length : Int) = V.int (M.length : Nat)) = false from decide_eq_false fun e => cl (by have := V.int.inj e; rw [hll] at this; omega)]
      refine iteT ?_
      have := k H0 s0
      unfold areB at this
      rw [decide_eq_false cl, Bool.false_and] at this
      exact this
end

abbrev sTls : Stmt := top 38
def goB (p : Int) (M : Mach) : List Int → List (List Int) → Bool
  | _, [] => true
  | e, c :: r => decide (c = e) && goB p M (nextC p M c) r
def trailB (p : Int) (M : Mach) (st : Int) (css : List (List Int)) : Bool := decide (css ≠ []) && ((css.map (areB p M.length)).all id && goB p M (firstC M st) css)
def spTrl (C : Addr) : Sp := fun vs H Q _ => ∃ (x a : Addr) (p : Int) (M : Mach) (st : Int) (xs : List V) (css : List (List Int)), vs = [.ref x, .ref a] ∧ TurAt C H x p M st ∧ OkT p M st ∧ H a = some (.lst xs) ∧ RowsI H xs css ∧ xs.length ≤ 1000 ∧ (∀ cs ∈ css, cs.length ≤ 1000) ∧ ∀ H', Same H H' → Q (.bl (trailB p M st css)) H'
def spTls (C : Addr) : Sp := fun vs H Q _ => ∃ (x a : Addr) (p : Int) (M : Mach) (st : Int) (xs : List V) (css : List (List Int)), vs = [.ref x, .ref a] ∧ TurAt C H x p M st ∧ OkT p M st ∧ H a = some (.lst xs) ∧ RowsI H xs css ∧ xs.length ≤ 1000 ∧ (∀ cs ∈ css, CsOk p M cs) ∧ ∀ H' r, Same H H' → H r = none → H' r = some (.lst ((css.map (totC p M)).map V.int)) → Q (.ref r) H'
theorem areB_ok {p : Int} {M : Mach} {cs : List Int} (h : areB p M.length cs = true) : CsOk p M cs := by
  unfold areB at h
  rw [Bool.and_eq_true_iff] at h
  refine ⟨of_decide_eq_true h.1, fun d hd => ?_⟩
  have := List.all_eq_true.mp h.2 (belowV (.int d) p) (List.mem_map_of_mem hd)
  have z : (decide (0 ≤ d) && decide (d < p)) = true := this
  rw [Bool.and_eq_true_iff] at z
  exact ⟨of_decide_eq_true z.1, of_decide_eq_true z.2⟩
theorem ne_li2 {K : PySem.W.Frag} {H : Hp} {a b : Addr} {ds es : List Int} {Q : V → Hp → Prop} (ha : H a = some (.lst (ds.map V.int))) (hb : H b = some (.lst (es.map V.int))) (q : Q (.bl (!decide (ds = es))) H) : rNeD K (.ref a) (.ref b) H Q := by
  refine ⟨_, _, .lst (SqL.of ha) (dp_ints ds), .lst (SqL.of hb) (dp_ints es), shaped_l ds, shaped_l es, ?_⟩
  rw [show PyData.eqv (.list (ds.map PyData.int)) (.list (es.map PyData.int)) = decide (ds = es) by rw [PyData.eqv]; exact eqv_ints2 ds es]
  exact q
theorem eq_li2 {K : PySem.W.Frag} {H : Hp} {a b : Addr} {ds es : List Int} {Q : V → Hp → Prop} (ha : H a = some (.lst (ds.map V.int))) (hb : H b = some (.lst (es.map V.int))) (q : Q (.bl (decide (ds = es))) H) : rEqD K (.ref a) (.ref b) H Q := by
  refine ⟨_, _, .lst (SqL.of ha) (dp_ints ds), .lst (SqL.of hb) (dp_ints es), shaped_l ds, shaped_l es, ?_⟩
  rw [show PyData.eqv (.list (ds.map PyData.int)) (.list (es.map PyData.int)) = decide (ds = es) by rw [PyData.eqv]; exact eqv_ints2 ds es]
  exact q
section
variable {P : Program} {w : World} {K : PySem.W.Frag} {mg : Str → Option Value} {base : Heap} {aP : Addr} {tD : Tok} {C : Addr} {mc u : Value}
theorem scTls : FnScope ["turner", "counts", "item"] ["turner", "counts"] (defScope sTls) := ⟨rfl, rfl, rfl, by decide +kernel, rfl, by decide +kernel, by decide +kernel⟩
theorem nmTls : nmB ["turner", "counts", "item"] [("turner", 0), ("counts", 1)] [] (defScope sTls) = true := by decide +kernel
theorem ok_tls {f : Addr} {fd : FuncData} (F : Fun K "_totals" "_totals" sTls f fd) (D : Df P w K mg base 5 "turn_total" ["turner", "counts"] (spTT C)) : FnOk P w K mg base CX0 6 f fd ["turner", "counts"] (spTls C) := by
  refine F.ok scTls (fun vs H Q E h => ?_) (fun cdv A outer s H vs Q E hr h => ?_)
  · obtain ⟨x, a, p, M, st, xs, css, rfl, _⟩ := h
    rfl
  · obtain ⟨x, a, p, M, st, xs, css, rfl, hT, hO, ha, hR, hl, hc, k⟩ := h
    refine' ex_mk ?d ?_
    case d =>
      have nm := nm_of (CX := CX0) (P := P) (w := w) (K := K) (mg := mg) (base := base) (outer := outer) (H := H) (E := E) nmTls hr
      refine' pss_one (ps_ret ?lc)
      case lc =>
        refine' n_lc (own := [("item", 2)]) (g := gName 2) (NS' := [("turner", 0), ("item", 2)]) (WS' := [("item", 2)]) (G' := ["turn_total"]) (N := ["turner", "counts", "item"]) (scD := defScope sTls) nm rfl rfl (by decide +kernel) (by decide +kernel) (pi_list ?li) (fun X' nm2 => ?lg) (fun X' nm2 => n_d nm2 D (by decide) ?e0 (pa_cons ?e1 (pa_cons ?e2 pa_nil)))
        case li => walk_at "pe"
        case lg => walk_at "pg"
        case e0 => walk_at "mem"
        case e1 => walk_at "pe"
        case e2 => walk_at "pe"
    refine ⟨_, rfl, a, rfl, ⟨_, SqL.of ha⟩, fun Dl hD => ?_⟩
    refine lc_seq (fs := (css.map (totC p M)).map V.int) (sj_L fun H1 s1 => SqL.of (s1 _ _ ha)) hD (by simp [hR.1]) (small1000 (by omega)) ?_ ?_ gm_name
    · intro j x' z H1 Qk hx hz s1 kk
      have hj : j < css.length := by rw [← hR.1]; exact (List.getElem?_eq_some_iff.mp hx).1
      obtain ⟨b, rfl, hb⟩ := hR.2 j x' css[j] hx (List.getElem?_eq_getElem hj)
      rw [List.getElem?_map, List.getElem?_map, List.getElem?_eq_getElem hj] at hz
      obtain rfl := Option.some.inj hz
      exact ⟨rfl, _, rfl, _, rfl, x, b, p, M, st, css[j], rfl, hT.same s1, hO, .inl (s1 _ _ hb), hc _ (List.getElem_mem hj), kk⟩
    · intro H1 s1 hDl
      exact k H1 Dl s1 hD hDl
theorem scTrl : FnScope ["turner", "counts", "expected", "item"] ["turner", "counts"] (defScope sTrl) := ⟨rfl, rfl, rfl, by decide +kernel, rfl, by decide +kernel, by decide +kernel⟩
theorem nmTrl : nmB ["turner", "counts", "expected", "item"] [("turner", 0), ("counts", 1), ("expected", 2), ("item", 3)] ["isinstance", "list", "tuple", "len", "all", "first_counts", "next_counts"] (defScope sTrl) = true := by decide +kernel
theorem ok_trl {f : Addr} {fd : FuncData} (F : Fun K "_is_trail" "_is_trail" sTrl f fd) (B : Bn mg) (D : Df P w K mg base 3 "are_counts" ["turner", "value"] (spAreB C)) (D1 : Df P w K mg base 3 "first_counts" ["turner"] (spFC C)) (D2 : Df P w K mg base 5 "next_counts" ["turner", "counts"] (spNC C)) : FnOk P w K mg base CX0 6 f fd ["turner", "counts"] (spTrl C) := by
  refine F.ok scTrl (fun vs H Q E h => ?_) (fun cdv A outer s H vs Q E hr h => ?_)
  · obtain ⟨x, a, p, M, st, xs, css, rfl, _⟩ := h
    rfl
  · obtain ⟨x, a, p, M, st, xs, css, rfl, hT, hO, ha, hR, hl, hc, k⟩ := h
    obtain ⟨b1, b2, b3, b4, b5, b6, b7, b8, b9, b10, b11⟩ := B
    refine' ex_mk ?d ?_
    case d =>
      have nm := nm_of (CX := CX0) (P := P) (w := w) (K := K) (mg := mg) (base := base) (outer := outer) (H := H) (E := E) nmTrl hr
      have hu := nm.room.units
      refine' pss_cons ?s1 (pss_cons (ps_if (pt_not (pt_val (n_b (x := "all") nm (by walk_at "as") (cr_all nm.calm) PyProof.Rows.boot_all ?bg (pa_cons ?lc pa_nil)))) (pss_one (ps_ret pe_bl)) pss_nil) (pss_cons ?s3 (pss_cons (n_for nm PassesOwn.never (pi_list ?fi) ?fg (pss_cons ?w1 (pss_one ?w2))) (pss_one (ps_ret pe_bl)))))
      case s1 => walk_at "ps"
      case bg => walk_at "mem"
      case lc =>
        refine' n_lc (own := [("item", 3)]) (g := gName 3) (NS' := [("turner", 0), ("item", 3)]) (WS' := [("item", 3)]) (G' := ["are_counts"]) (N := ["turner", "counts", "expected", "item"]) (scD := defScope sTrl) nm rfl rfl (by decide +kernel) (by decide +kernel) (pi_list ?li) (fun X' nm2 => ?lg) (fun X' nm2 => n_d nm2 D (by decide) ?e0 (pa_cons ?e1 (pa_cons ?e2 pa_nil)))
        case li => walk_at "pe"
        case lg => walk_at "pg"
        case e0 => walk_at "mem"
        case e1 => walk_at "pe"
        case e2 => walk_at "pe"
      case s3 => walk_at "ps"
      case fi => walk_at "pe"
      case fg => walk_at "pg"
      case w1 =>
        refine' ps_if (pt_cmpR (op_neD hu) ?t1 ?t2 (nomark _)) (pss_one (ps_ret pe_bl)) pss_nil
        case t1 => walk_at "pe"
        case t2 => walk_at "pe"
      case w2 => walk_at "ps"
    refine ⟨_, rfl, by show 2 ≤ sizeLine; decide, fun q hq => ?_⟩
    have s0 : Same H (upd H q (.tup [.ty "list", .ty "tuple"])) := same_new hq
    have hq0 : (upd H q (.tup [.ty "list", .ty "tuple"])) q = some (.tup [.ty "list", .ty "tuple"]) := upd_same
    generalize upd H q (.tup [.ty "list", .ty "tuple"]) = H0 at s0 hq0
    have ha0 := s0 _ _ ha
    have hT0 := hT.same s0
    refine ⟨_, q, _, _, _, _, rfl, hq0, .cons (.ty "list") (.cons (.ty "tuple") .nil), ty_l (SqL.of ha0), kitAny_cons (kit_ty (by decide +kernel : kitB "list" "list" = some true)) (fun z => nomatch z) (fun _ => rfl), _, rfl, ?_⟩
    refine iteF ?_
    refine ⟨_, rfl, a, _, rfl, .inl (SqL.of ha0), rfl, _, rfl, ?_⟩
    have kf : trailB p M st css = false → ∀ H', Same H H' → Q (.bl false) H' := fun e => by rw [e] at k; exact k
    by_cases ce : css = []
    · subst ce
      rw [show decide (V.int ((xs.length : Nat) : Int) = V.int 0) = true from decide_eq_true (by rw [hR.1]; rfl)]
      refine iteT ?_
      exact kf rfl _ s0
    · rw [show decide (V.int ((xs.length : Nat) : Int) = V.int 0) = false from decide_eq_false fun z => ce (List.length_eq_zero_iff.mp (by have := V.int.inj z; rw [hR.1] at this; omega))]
      refine iteF ?_
      refine ⟨_, rfl, a, rfl, ⟨_, SqL.of ha0⟩, fun Dl hD => ?_⟩
      refine lc_seq (fs := (css.map (areB p M.length)).map V.bl) (sj_L fun H1 s1 => SqL.of (s1 _ _ ha0)) hD (by simp [hR.1]) (small1000 (by omega)) ?_ ?_ gm_name
      · intro j x' z H1 Qk hx hz s1 kk
        have hj : j < css.length := by rw [← hR.1]; exact (List.getElem?_eq_some_iff.mp hx).1
        obtain ⟨b, rfl, hb⟩ := hR.2 j x' css[j] hx (List.getElem?_eq_getElem hj)
        rw [List.getElem?_map, List.getElem?_map, List.getElem?_eq_getElem hj] at hz
        obtain rfl := Option.some.inj hz
        exact ⟨rfl, _, rfl, _, rfl, x, b, p, M, st, css[j], rfl, hT0.same s1, hO, s1 _ _ (s0 _ _ hb), hc _ (List.getElem_mem hj), kk⟩
      · intro H1 s1 hDl
        refine ⟨Dl, _, rfl, SqL.of hDl, ?_⟩
        refine ⟨_, rfl, ?_⟩
        by_cases call : (css.map (areB p M.length)).all id = true
        · rw [call]
          refine iteF ?_
          refine ⟨_, rfl, x, p, M, st, rfl, hT0.same s1, hO, fun H2 e s2 he0 he => ?_⟩
          have s12 := Same.trans s1 s2
          refine ⟨_, rfl, a, rfl, ⟨_, SqL.of (s12 _ _ ha0)⟩, ?_⟩
          have tr : goB p M (firstC M st) css = trailB p M st css := by unfold trailB; rw [decide_eq_true ce, call, Bool.true_and, Bool.true_and]
          refine for_seq (xs := xs) (sj_L (K := K) (S := fun H' => Same H0 H') fun H' h => SqL.of (h _ _ ha0)) (fun j σ H' => ∃ e v3 ex, σ = [some (.ref x), some (.ref a), some (.ref e), v3] ∧ Same H0 H' ∧ H' e = some (.lst (ex.map V.int)) ∧ trailB p M st css = goB p M ex (css.drop j)) ⟨e, none, _, rfl, s12, he, by rw [List.drop_zero, ← tr]⟩ (fun j σ H' h => h.choose_spec.choose_spec.choose_spec.2.1) ?_ ?_
          · rintro j x' σ H' hx ⟨e, v3, ex, rfl, sb, hex, hgo⟩
            have hj : j < css.length := by rw [← hR.1]; exact (List.getElem?_eq_some_iff.mp hx).1
            obtain ⟨b, rfl, hb⟩ := hR.2 j x' css[j] hx (List.getElem?_eq_getElem hj)
            have hb' := sb _ _ (s0 _ _ hb)
            rw [List.drop_eq_getElem_cons hj, goB] at hgo
            refine ⟨_, rfl, b, _, rfl, .inl (SqL.of hb'), fun l hl0 => ?_⟩
            have sl := same_new (o := .lst (css[j].map V.int)) hl0
            refine ⟨_, rfl, ne_li2 upd_same (sl _ _ hex) ⟨_, rfl, ?_⟩⟩
            by_cases cx : css[j] = ex
            · rw [decide_eq_true cx, Bool.true_and] at hgo
              rw [decide_eq_true cx]
              refine iteF ?_
              have hok : CsOk p M css[j] := areB_ok (by have := List.all_eq_true.mp call (areB p M.length css[j]) (List.mem_map_of_mem (List.getElem_mem hj)); exact this)
              refine ⟨_, rfl, _, rfl, x, b, p, M, st, css[j], rfl, (hT0.same sb).same sl, hO, .inl (sl _ _ hb'), hok, fun H3 r s3 hr0 hr3 => ?_⟩
              exact ⟨r, _, _, rfl, Same.trans sb (Same.trans sl s3), hr3, hgo⟩
            · rw [decide_eq_false cx, Bool.false_and] at hgo
              rw [decide_eq_false cx]
              refine iteT ?_
              exact kf hgo _ (Same.trans s0 (Same.trans sb sl))
          · rintro σ H' ⟨e, v3, ex, rfl, sb, hex, hgo⟩
            rw [hR.1, List.drop_length] at hgo
            have := k H' (Same.trans s0 sb)
            rw [hgo] at this
            exact this
        · have cf : (css.map (areB p M.length)).all id = false := by
            cases e : (css.map (areB p M.length)).all id with
            | true => exact absurd e call
            | false => rfl
          rw [cf]
          refine iteT ?_
          exact kf (by unfold trailB; rw [cf, Bool.false_and, Bool.and_false]) _ (Same.trans s0 s1)
end

abbrev sHoS : Stmt := inClass (top 40) 5
section
variable {P : Program} {w : World} {K : PySem.W.Frag} {mg : Str → Option Value} {base : Heap} {C S N : Addr}
/-! holds -/
def spHoS (C N : Addr) : Sp := fun vs H Q _ => ∃ (y dx x r : Addr) (p : Int) (M : Mach) (st : Int) (ys : List V) (css : List (List Int)) (b : Nat) (l : List Int), vs = [.ref y] ∧ H y = some (.ins N dx (fsN (.ref x) (.ref r) (.int (b : Int)))) ∧ TurAt C H x p M st ∧ OkT p M st ∧ H r = some (.lst ys) ∧ RowsI H ys css ∧ ys.length ≤ 1000 ∧ (∀ cs ∈ css, cs.length ≤ 1000) ∧
  trailB p M st css = true ∧ (∀ cs ∈ css, totC p M cs ≠ 0) ∧ css[css.length - 1]? = some l ∧ css[b]? = some (nextC p M l) ∧ ∀ H', Same H H' → Q (.bl true) H'
theorem trail_ok {p : Int} {M : Mach} {st : Int} {css : List (List Int)} (h : trailB p M st css = true) : ∀ cs ∈ css, CsOk p M cs := fun cs hcs => by
  unfold trailB at h
  rw [Bool.and_eq_true_iff, Bool.and_eq_true_iff] at h
  exact areB_ok (List.all_eq_true.mp h.2.1 (areB p M.length cs) (List.mem_map_of_mem hcs))
theorem scHoS : FnScope ["self"] ["self"] (defScope sHoS) := ⟨rfl, rfl, rfl, by decide +kernel, rfl, by decide +kernel, by decide +kernel⟩
theorem nmHoS : nmB ["self"] [("self", 0)] ["_is_trail", "_totals", "is_below", "len", "list", "next_counts"] (defScope sHoS) = true := by decide +kernel
theorem ok_hos {f : Addr} {fd : FuncData} (F : Fun K "holds" "Single.holds" sHoS f fd) (B : Bn mg) (T : Bc K N) (D0 : Df P w K mg base 2 "is_below" ["value", "bound"] (spBel K)) (D : Df P w K mg base 6 "_is_trail" ["turner", "counts"] (spTrl C)) (D2 : Df P w K mg base 6 "_totals" ["turner", "counts"] (spTls C)) (D3 : Df P w K mg base 5 "next_counts" ["turner", "counts"] (spNC C)) : FnOk P w K mg base CX0 7 f fd ["self"] (spHoS C N) := by
  obtain ⟨⟨hcl, nT, nC⟩, nB⟩ := T
  refine F.ok scHoS (fun vs H Q E h => ?_) (fun cdv A outer s H vs Q E hr h => ?_)
  · obtain ⟨y, dx, x, r, p, M, st, ys, css, b, l, rfl, _⟩ := h
    rfl
  · obtain ⟨y, dx, x, r, p, M, st, ys, css, b, l, rfl, hy, hT, hO, hr', hR, hl, hc, htr, hto, hla, hbk, k⟩ := h
    obtain ⟨b1, b2, b3, b4, b5, b6, b7, b8, b9, b10, b11⟩ := B
    refine' ex_mk (PSs.nox ?d) ?_
    case d =>
      have nm := nm_of (CX := CX0) (P := P) (w := w) (K := K) (mg := mg) (base := base) (outer := outer) (H := H) (E := E) nmHoS hr
      have hu := nm.room.units
      refine' pss_cons ?s1 (pss_cons ?s2 (pss_one (ps_ret (pe_cmpR (op_eqD hu) ?e1 ?e2 (nomark _)))))
      case s1 => walk_at "ps"
      case s2 => walk_at "ps"
      case e1 =>
        refine' n_d nm D3 (by decide) ?g1 (pa_cons ?x1 (pa_cons (n_ixL nm ?x2 (pe_un un_neg pe_int) (fun _ _ => rfl)) pa_nil))
        case g1 => walk_at "mem"
        case x1 => walk_at "pe"
        case x2 => walk_at "pe"
      case e2 =>
        refine' n_t (x := "list") nm b4 call_list_of PyProof.Rows.boot_list ?g1 (pa_cons (n_ixL nm ?x1 ?x2 (fun _ _ => rfl)) pa_nil)
        case g1 => walk_at "mem"
        case x1 => walk_at "pe"
        case x2 => walk_at "pe"
    refine ⟨_, rfl, y, N, dx, _, _, rfl, hy, hcl, nT, rfl, _, rfl, y, N, dx, _, _, rfl, hy, hcl, nC, rfl, x, r, p, M, st, ys, css, rfl, hT, hO, hr', hR, hl, hc, fun H1 s1 => ⟨_, rfl, ?_⟩⟩
    rw [htr]
    refine iteF ?_
    have hb1 : b < css.length := (List.getElem?_eq_some_iff.mp hbk).1
    have hR1 := hR.1
    refine ⟨_, rfl, y, N, dx, _, _, rfl, s1 _ _ hy, hcl, nB, rfl, _, rfl, y, N, dx, _, _, rfl, s1 _ _ hy, hcl, nC, rfl, r, ys, rfl, .inl (SqL.of (s1 _ _ hr')), _, _, _, rfl, kd_int _, _, rfl, ?_⟩
    rw [belowV_in ⟨by omega, by omega⟩]
    refine iteF ?_
    have hT1 := hT.same s1
    have hr1 := s1 _ _ hr'
    have hR2 := hR.same s1
    refine ⟨_, rfl, y, N, dx, _, _, rfl, s1 _ _ hy, hcl, nT, rfl, _, rfl, y, N, dx, _, _, rfl, s1 _ _ hy, hcl, nC, rfl, x, r, p, M, st, ys, css, rfl, hT1, hO, hr1, hR2, hl, trail_ok htr, fun H2 q s2 hq0 hq => ?_⟩
    refine ⟨q, _, rfl, .inl (SqL.of hq), rfl, flat_ints _, _, rfl, ?_⟩
    rw [show (if false = true then !inV (V.int 0) ((css.map (totC p M)).map V.int) else inV (V.int 0) ((css.map (totC p M)).map V.int)) = false by
      rw [if_neg (by decide), inV_ints]
      refine decide_eq_false fun h => ?_
      obtain ⟨cs, hcs, e⟩ := List.mem_map.mp h
      exact hto cs hcs e]
    refine iteF ?_
    have s12 := Same.trans s1 s2
    have hle : css.length - 1 < ys.length := by omega
    obtain ⟨a1, e1, ha1⟩ := hR.2 (css.length - 1) _ _ (List.getElem?_eq_getElem hle) hla
    obtain ⟨a2, e2, ha2⟩ := hR.2 b _ _ (List.getElem?_eq_getElem (by omega : b < ys.length)) hbk
    have at1 : atI ys (-1) = some (.ref a1) := at_last (n := css.length - 1) (by omega) (by rw [List.getElem?_eq_getElem hle, e1])
    have at2 : atI ys (b : Int) = some (.ref a2) := atI_nat (by rw [List.getElem?_eq_getElem (by omega : b < ys.length), e2])
    have okl : CsOk p M l := trail_ok htr l (List.mem_of_getElem? hla)
    refine ⟨_, rfl, y, N, dx, _, _, rfl, s12 _ _ hy, hcl, nT, rfl, _, rfl, y, N, dx, _, _, rfl, s12 _ _ hy, hcl, nC, rfl, _, rfl, r, ys, _, _, rfl, rfl, SqL.of (s12 _ _ hr'), at1, x, a1, p, M, st, l, rfl, hT.same s12, hO, .inl (s12 _ _ ha1), okl, fun H3 q3 s3 hq30 hq3 => ?_⟩
    have s13 := Same.trans s12 s3
    refine ⟨_, rfl, y, N, dx, _, _, rfl, s13 _ _ hy, hcl, nC, rfl, _, rfl, y, N, dx, _, _, rfl, s13 _ _ hy, hcl, nB, rfl, r, ys, _, _, rfl, rfl, SqL.of (s13 _ _ hr'), at2, a2, _, rfl, .inl (SqL.of (s13 _ _ ha2)), fun l4 hl4 => ?_⟩
    have s4 := same_new (o := .lst ((nextC p M l).map V.int)) hl4
    refine eq_li2 (s4 _ _ hq3) upd_same ?_
    rw [decide_eq_true rfl]
    exact k _ (Same.trans s13 s4)
end

/-! pairs of counts copied, the class Match -/
abbrev sMi : Stmt := inClass (top 43) 0
/-- pairs of lists of ints -/
def PairsI (H : Hp) (xs : List V) (ps : List (List Int × List Int)) : Prop := xs.length = ps.length ∧ ∀ (i : Nat) v q, xs[i]? = some v → ps[i]? = some q → ∃ t a b, v = .ref t ∧ H t = some (.tup [.ref a, .ref b]) ∧ H a = some (.lst (q.1.map V.int)) ∧ H b = some (.lst (q.2.map V.int))
theorem PairsI.same {H H' : Hp} {xs : List V} {ps : List (List Int × List Int)} (h : PairsI H xs ps) (e : Same H H') : PairsI H' xs ps := ⟨h.1, fun i v q h1 h2 => by
  obtain ⟨t, a, b, rfl, h3, h4, h5⟩ := h.2 i v q h1 h2
  exact ⟨t, a, b, rfl, e _ _ h3, e _ _ h4, e _ _ h5⟩⟩
theorem PairsI.put {H : Hp} {xs : List V} {ps : List (List Int × List Int)} {c : Addr} {o o' : HO} (h : PairsI H xs ps) (hc : H c = some o) (n1 : ∀ ys, o ≠ .tup ys) (n2 : ∀ ds : List Int, o ≠ .lst (ds.map V.int)) : PairsI (upd H c o') xs ps := ⟨h.1, fun i v q h1 h2 => by
  obtain ⟨t, a, b, rfl, h3, h4, h5⟩ := h.2 i v q h1 h2
  exact ⟨t, a, b, rfl, by rw [upd_ne (ne_of h3 hc fun e => n1 _ e.symm)]; exact h3, by rw [upd_ne (ne_of h4 hc fun e => n2 _ e.symm)]; exact h4, by rw [upd_ne (ne_of h5 hc fun e => n2 _ e.symm)]; exact h5⟩⟩
theorem small5000 {n : Nat} (h : n ≤ 5001) : n < sizeLine := Nat.lt_of_le_of_lt h (by rw [sizeLine_eq]; decide)
def spCq : Sp := fun vs H Q _ => ∃ (t a b : Addr) (q : List Int × List Int), vs = [.ref t] ∧ H t = some (.tup [.ref a, .ref b]) ∧ H a = some (.lst (q.1.map V.int)) ∧ H b = some (.lst (q.2.map V.int)) ∧ q.1.length ≤ 1000 ∧ q.2.length ≤ 1000 ∧
  ∀ H' t' a' b', Same H H' → H t' = none → H a' = none → H b' = none → H' t' = some (.tup [.ref a', .ref b']) → H' a' = some (.lst (q.1.map V.int)) → H' b' = some (.lst (q.2.map V.int)) → Q (.ref t') H'
def spCp2 : Sp := fun vs H Q _ => ∃ (a : Addr) (xs : List V) (ps : List (List Int × List Int)), vs = [.ref a] ∧ H a = some (.lst xs) ∧ PairsI H xs ps ∧ xs.length ≤ 5000 ∧ (∀ q ∈ ps, q.1.length ≤ 1000 ∧ q.2.length ≤ 1000) ∧ ∀ H' r ys, Same H H' → H r = none → H' r = some (.lst ys) → PairsI H' ys ps → Q (.ref r) H'
/-- what of the text the class Match has -/
structure Mc (K : PySem.W.Frag) (C : Addr) : Prop where
  cl : Cls K C
  n1 : NoAttr K C "_one"
  n2 : NoAttr K C "_other"
  n3 : NoAttr K C "_pairs"
  n4 : NoAttr K C "_back"
def fsM (x y r : V) (b : V) : List (Str × V) := putF "_back" b (putF "_pairs" r (putF "_other" y (putF "_one" x [])))
theorem fsM_p (x y r b : V) : (fsM x y r b).lookup ("_pairs" : Str) = some r := rfl
/-- a match stands at z -/
def MatAt (C : Addr) (H : Hp) (z : Addr) (x y : V) (ps : List (List Int × List Int)) (b : Int) : Prop := ∃ dz r ys, H z = some (.ins C dz (fsM x y (.ref r) (.int b))) ∧ H r = some (.lst ys) ∧ PairsI H ys ps
theorem MatAt.same {C : Addr} {H H' : Hp} {z : Addr} {x y : V} {ps : List (List Int × List Int)} {b : Int} (h : MatAt C H z x y ps b) (e : Same H H') : MatAt C H' z x y ps b :=
  let ⟨dz, r, ys, h1, h2, h3⟩ := h
  ⟨dz, r, ys, e _ _ h1, e _ _ h2, h3.same e⟩
def spMi (C : Addr) : Sp := fun vs H Q _ => ∃ (z dz : Addr) (x y : V) (a : Addr) (xs : List V) (ps : List (List Int × List Int)) (b : Int), vs = [.ref z, x, y, .ref a, .int b] ∧ H z = some (.ins C dz []) ∧ H a = some (.lst xs) ∧ PairsI H xs ps ∧ xs.length ≤ 5000 ∧ (∀ q ∈ ps, q.1.length ≤ 1000 ∧ q.2.length ≤ 1000) ∧
  ∀ H', (∀ c o, c ≠ z → H c = some o → H' c = some o) → MatAt C H' z x y ps b → Q .non H'
section
variable {P : Program} {w : World} {K : PySem.W.Frag} {mg : Str → Option Value} {base : Heap} {aP : Addr} {tD : Tok} {C : Addr} {mc u : Value}
theorem ok_cq {f : Addr} {fd : FuncData} (F : Fun K "copied" "copied" sCp f fd) (B : Bn mg) (D : Df P w K mg base 2 "copied" ["value"] spC1) : FnOk P w K mg base CX0 3 f fd ["value"] spCq := by
  refine F.ok scCp (fun vs H Q E h => ?_) (fun cdv A outer s H vs Q E hr h => ?_)
  · obtain ⟨t, a, b, q, rfl, _⟩ := h
    rfl
  · obtain ⟨t, a, b, q, rfl, ht, ha, hb, la, lb, k⟩ := h
    obtain ⟨b1, b2, b3, b4, b5, b6, b7, b8, b9, b10, b11⟩ := B
    refine' ex_mk ?d ?_
    case d =>
      have nm := nm_of (CX := CX0) (P := P) (w := w) (K := K) (mg := mg) (base := base) (outer := outer) (H := H) (E := E) nmCp hr
      refine' pss_cons (ps_if ?c1 (pss_one ps_never) pss_nil) (pss_cons (ps_if ?c2 (pss_one (ps_ret (n_t (x := "tuple") nm b5 call_tuple_of PyProof.Rows.boot_tuple ?g5 (pa_cons ?lc pa_nil)))) pss_nil) (pss_one ?ret))
      case c1 => walk_at "pt"
      case c2 => walk_at "pt"
      case ret => walk_at "ps"
      case g5 => walk_at "mem"
      case lc =>
        refine' n_lc (own := [("item", 1)]) (g := gName 1) (NS' := [("item", 1)]) (WS' := [("item", 1)]) (G' := ["copied"]) (N := ["value", "item"]) (scD := defScope sCp) nm rfl rfl (by decide +kernel) (by decide +kernel) (pi_tup ?li) (fun X' nm2 => ?lg) (fun X' nm2 => ?le)
        case li => walk_at "pe"
        case lg => walk_at "pg"
        case le =>
          refine' n_d nm2 D (by decide) ?ug ?ua
          case ug => walk_at "mem"
          case ua => walk_at "pa"
    refine ⟨_, rfl, _, _, _, _, _, rfl, .ty "list", .base (.tup ht), kit_ty (by decide +kernel : kitB "tuple" "list" = some false), _, rfl, ?_⟩
    refine iteF ?_
    refine ⟨_, rfl, _, _, _, _, _, rfl, .ty "tuple", .base (.tup ht), kit_ty (by decide +kernel : kitB "tuple" "tuple" = some true), _, rfl, ?_⟩
    refine iteT ?_
    refine ⟨_, rfl, t, rfl, ⟨_, SqT.of ht⟩, fun Dl hD => ?_⟩
    refine lcN (K := K) (xs := [.ref a, .ref b]) (R := fun i z H' => ∀ cs, [q.1, q.2][i]? = some cs → ∃ e, z = .ref e ∧ e ≠ Dl ∧ H e = none ∧ H' e = some (.lst (cs.map V.int))) (sj_T (K := K) fun H5 s5 => SqT.of (s5 _ _ ht)) hD (small1000 (by show 2 ≤ 1000; decide))
      (fun i z H2 H3 e h cs hcs => ?_) (fun i z H2 zs h cs hcs => ?_) ?_ ?_ gm_name
    · obtain ⟨r, e1, e2, e0, e3⟩ := h cs hcs
      exact ⟨r, e1, e2, e0, e _ _ e3⟩
    · obtain ⟨r, e1, e2, e0, e3⟩ := h cs hcs
      exact ⟨r, e1, e2, e0, by rw [upd_ne e2]; exact e3⟩
    · intro j v H3 Qk hv s3 hys kk
      obtain ⟨zs, hDl⟩ := hys
      obtain ⟨c, cs, rfl, hcs, hc, lc⟩ : ∃ (c : Addr) (cs : List Int), v = .ref c ∧ [q.1, q.2][j]? = some cs ∧ H c = some (.lst (cs.map V.int)) ∧ cs.length ≤ 1000 := by
        match j, hv with
        | 0, h => exact ⟨a, q.1, (Option.some.inj h).symm, rfl, ha, la⟩
        | 1, h => exact ⟨b, q.2, (Option.some.inj h).symm, rfl, hb, lb⟩
        | j + 2, h => exact absurd h (by simp)
      refine ⟨rfl, _, rfl, c, cs, rfl, s3 _ _ hc, lc, fun H4 r s4 hr0 hr => ?_⟩
      refine kk _ H4 s4 fun cs2 h => ?_
      rw [hcs] at h
      obtain rfl := Option.some.inj h
      exact ⟨r, rfl, (ne_of_none hDl hr0).symm, Same.free s3 hr0, hr⟩
    · intro ys H3 s3 hDl hyl hRR
      obtain ⟨y1, y2, rfl⟩ : ∃ y1 y2, ys = [y1, y2] := by
        match ys, hyl with
        | [y1, y2], _ => exact ⟨y1, y2, rfl⟩
      obtain ⟨a', rfl, _, na', ha'⟩ := hRR 0 y1 rfl q.1 rfl
      obtain ⟨b', rfl, _, nb', hb'⟩ := hRR 1 y2 rfl q.2 rfl
      refine ⟨Dl, _, rfl, .inl ⟨SqL.of hDl, fun t' ht' => ?_⟩⟩
      have s4 := same_new (o := .tup [.ref a', .ref b']) ht'
      exact k _ t' a' b' (Same.trans s3 s4) (Same.free s3 ht') na' nb' upd_same (s4 _ _ ha') (s4 _ _ hb')
theorem ok_cp2 {f : Addr} {fd : FuncData} (F : Fun K "copied" "copied" sCp f fd) (B : Bn mg) (D : Df P w K mg base 3 "copied" ["value"] spCq) : FnOk P w K mg base CX0 4 f fd ["value"] spCp2 := by
  refine F.ok scCp (fun vs H Q E h => ?_) (fun cdv A outer s H vs Q E hr h => ?_)
  · obtain ⟨a, xs, ps, rfl, _⟩ := h
    rfl
  · obtain ⟨a, xs, ps, rfl, ha, hR, hz, hzs, k⟩ := h
    obtain ⟨b1, b2, b3, b4, b5, b6, b7, b8, b9, b10, b11⟩ := B
    refine' ex_mk ?d ?_
    case d =>
      have nm := nm_of (CX := CX0) (P := P) (w := w) (K := K) (mg := mg) (base := base) (outer := outer) (H := H) (E := E) nmCp hr
      refine' pss_cons (ps_if ?c1 (pss_one (ps_ret ?lc)) pss_nil) (pss_cons (ps_if ?c2 (pss_one ps_never) pss_nil) (pss_one ?ret))
      case c1 => walk_at "pt"
      case c2 => walk_at "pt"
      case ret => walk_at "ps"
      case lc =>
        refine' n_lc (own := [("item", 1)]) (g := gName 1) (NS' := [("item", 1)]) (WS' := [("item", 1)]) (G' := ["copied"]) (N := ["value", "item"]) (scD := defScope sCp) nm rfl rfl (by decide +kernel) (by decide +kernel) (pi_list ?li) (fun X' nm2 => ?lg) (fun X' nm2 => ?le)
        case li => walk_at "pe"
        case lg => walk_at "pg"
        case le =>
          refine' n_d nm2 D (by decide) ?ug ?ua
          case ug => walk_at "mem"
          case ua => walk_at "pa"
    refine ⟨_, rfl, _, _, _, _, _, rfl, .ty "list", .base (.lst ha), kit_ty (by decide +kernel : kitB "list" "list" = some true), _, rfl, ?_⟩
    refine iteT ?_
    refine ⟨_, rfl, a, rfl, ⟨_, SqL.of ha⟩, fun Dl hD => ?_⟩
    refine lcN (K := K) (xs := xs) (R := fun i z H' => ∀ q, ps[i]? = some q → ∃ t c d, z = .ref t ∧ c ≠ Dl ∧ d ≠ Dl ∧ t ≠ Dl ∧ H' t = some (.tup [.ref c, .ref d]) ∧ H' c = some (.lst (q.1.map V.int)) ∧ H' d = some (.lst (q.2.map V.int))) (sj_L (K := K) fun H5 s5 => SqL.of (s5 _ _ ha)) hD (small5000 (by omega))
      (fun i z H2 H3 e h q hq => ?_) (fun i z H2 zs h q hq => ?_) ?_ ?_ gm_name
    · obtain ⟨t, c, d, e1, n1, n2, n3, e2, e3, e4⟩ := h q hq
      exact ⟨t, c, d, e1, n1, n2, n3, e _ _ e2, e _ _ e3, e _ _ e4⟩
    · obtain ⟨t, c, d, e1, n1, n2, n3, e2, e3, e4⟩ := h q hq
      exact ⟨t, c, d, e1, n1, n2, n3, by rw [upd_ne n3]; exact e2, by rw [upd_ne n1]; exact e3, by rw [upd_ne n2]; exact e4⟩
    · intro j v H3 Qk hv s3 hys kk
      obtain ⟨zs, hDl⟩ := hys
      have hj : j < ps.length := by rw [← hR.1]; exact (List.getElem?_eq_some_iff.mp hv).1
      have hq : ps[j]? = some ps[j] := List.getElem?_eq_getElem hj
      obtain ⟨t, c, d, rfl, g1, g2, g3⟩ := hR.2 j v _ hv hq
      have hz2 := hzs _ (List.getElem_mem hj)
      refine ⟨rfl, _, rfl, t, c, d, ps[j], rfl, s3 _ _ g1, s3 _ _ g2, s3 _ _ g3, hz2.1, hz2.2, fun H4 t' c' d' s4 ht0 hc0 hd0 ht' hc' hd' => ?_⟩
      have hD4 := s4 _ _ hDl
      refine kk _ H4 s4 fun q h => ?_
      rw [hq] at h
      obtain rfl := Option.some.inj h
      exact ⟨t', c', d', rfl, (ne_of_none hDl hc0).symm, (ne_of_none hDl hd0).symm, (ne_of_none hDl ht0).symm, ht', hc', hd'⟩
    · intro ys H3 s3 hDl hyl hRR
      refine k H3 Dl ys s3 hD hDl ⟨by rw [hyl, hR.1], fun i v q h1 h2 => ?_⟩
      obtain ⟨t, c, d, e1, _, _, _, e2, e3, e4⟩ := hRR i v h1 q h2
      exact ⟨t, c, d, e1, e2, e3, e4⟩
theorem scMi : FnScope ["self", "one", "other", "pairs", "back"] ["self", "one", "other", "pairs", "back"] (defScope sMi) := ⟨rfl, rfl, rfl, by decide +kernel, rfl, by decide +kernel, by decide +kernel⟩
theorem nmMi : nmB ["self", "one", "other", "pairs", "back"] [("self", 0), ("one", 1), ("other", 2), ("pairs", 3), ("back", 4)] ["copied"] (defScope sMi) = true := by decide +kernel
theorem ok_mi {f : Addr} {fd : FuncData} (F : Fun K "__init__" "Match.__init__" sMi f fd) (T : Mc K C) (D : Df P w K mg base 4 "copied" ["value"] spCp2) (D0 : Df P w K mg base 1 "copied" ["value"] spC0) : FnOk P w K mg base CX0 5 f fd ["self", "one", "other", "pairs", "back"] (spMi C) := by
  refine F.ok scMi (fun vs H Q E h => ?_) (fun cdv A outer s H vs Q E hr h => ?_)
  · obtain ⟨z, dz, x, y, a, xs, ps, b, rfl, _⟩ := h
    rfl
  · obtain ⟨z, dz, x, y, a, xs, ps, b, rfl, hz, ha, hR, hl, hls, k⟩ := h
    refine' ex_mk ?d ?_
    case d =>
      have nm := nm_of (CX := CX0) (P := P) (w := w) (K := K) (mg := mg) (base := base) (outer := outer) (H := H) (E := E) nmMi hr
      refine' pss_cons ?s1 (pss_cons ?s2 (pss_cons (ps_fld ?e1 (n_d nm D (by decide) ?g1 (pa_cons ?a1 pa_nil)) (by rfl)) (pss_one (ps_fld ?e2 (n_d nm D0 (by decide) ?g2 (pa_cons ?a2 pa_nil)) (by rfl)))))
      case s1 => walk_at "ps"
      case s2 => walk_at "ps"
      case e1 => walk_at "pe"
      case g1 => walk_at "mem"
      case a1 => walk_at "pe"
      case e2 => walk_at "pe"
      case g2 => walk_at "mem"
      case a2 => walk_at "pe"
    refine ⟨_, rfl, _, rfl, z, C, dz, _, rfl, hz, T.cl, T.n1, by show 0 < 1000; decide, ?_⟩
    refine ⟨_, rfl, _, rfl, z, C, dz, _, rfl, upd_same, T.cl, T.n2, by show 1 < 1000; decide, ?_⟩
    rw [upd_upd]
    have ni : ∀ ys, HO.ins C dz [] ≠ .tup ys := fun ys e => by cases e
    have nl : ∀ ds : List Int, HO.ins C dz [] ≠ .lst (ds.map V.int) := fun ds e => by cases e
    have ha2 : upd H z (.ins C dz (putF "_other" y (putF "_one" x []))) a = some (.lst xs) := by rw [upd_ne (ne_of ha hz fun e => by cases e)]; exact ha
    refine ⟨_, rfl, a, xs, ps, rfl, ha2, hR.put hz ni nl, hl, hls, fun H2 r ys s2 hr0 hr hRy => ?_⟩
    have hz2 := s2 _ _ (upd_same (a := z) (o := HO.ins C dz (putF "_other" y (putF "_one" x []))) (H := H))
    refine ⟨_, rfl, z, C, dz, _, rfl, hz2, T.cl, T.n3, by show 2 < 1000; decide, ?_⟩
    refine ⟨_, rfl, .int b, rfl, .inl ⟨b, rfl⟩, ?_⟩
    refine ⟨_, rfl, z, C, dz, _, rfl, upd_same, T.cl, T.n4, by show 3 < 1000; decide, ?_⟩
    rw [upd_upd]
    have nz : r ≠ z := ne_of hr hz2 fun e => by cases e
    refine k _ (fun c o n e => ?_) ⟨dz, r, ys, upd_same, by rw [upd_ne nz]; exact hr, hRy.put hz2 (fun ys e => by cases e) (fun ds e => by cases e)⟩
    rw [upd_ne n]
    exact s2 _ _ (by rw [upd_ne n]; exact e)
end

/-! match -/
abbrev sKy : Stmt := top 45
abbrev sCkp : Stmt := top 44
abbrev sMt : Stmt := top 46
open NK in
/-- a pair of counts as a key -/
def kyP (q : List Int × List Int) : List L2.Key × List L2.Key := (kyL q.1, kyL q.2)
theorem kyP_inj {q r : List Int × List Int} (h : kyP q = kyP r) : q = r := Prod.ext (kyL_inj (Prod.mk.inj h).1) (kyL_inj (Prod.mk.inj h).2)
/-- the pair of counts at j dials -/
def pairN (p : Int) (M : Mach) (st : Int) (N : Mach) (su : Int) (j : Nat) : List Int × List Int := (itC p M st j, itC p N su j)
def trailP (p : Int) (M : Mach) (st : Int) (N : Mach) (su : Int) (n : Nat) : List (List Int × List Int) := (List.range n).map (pairN p M st N su)
theorem trailP_len (p : Int) (M : Mach) (st : Int) (N : Mach) (su : Int) (n : Nat) : (trailP p M st N su n).length = n := by unfold trailP; rw [List.length_map, List.length_range]
theorem trailP_at {p : Int} {M : Mach} {st : Int} {N : Mach} {su : Int} {n i : Nat} (h : i < n) : (trailP p M st N su n)[i]? = some (pairN p M st N su i) := by
  unfold trailP
  rw [List.getElem?_map, List.getElem?_range h]; rfl
theorem trailP_succ (p : Int) (M : Mach) (st : Int) (N : Mach) (su : Int) (n : Nat) : trailP p M st N su (n + 1) = trailP p M st N su n ++ [pairN p M st N su n] := by
  unfold trailP
  rw [List.range_succ, List.map_append]; rfl
def NewP (p : Int) (M : Mach) (st : Int) (N : Mach) (su : Int) (j : Nat) : Prop := ∀ i, i < j → pairN p M st N su i ≠ pairN p M st N su j
/-- both totals at j dials are the same and not 0 -/
def TotP (p : Int) (M : Mach) (st : Int) (N : Mach) (su : Int) (j : Nat) : Prop := totN p M st j ≠ 0 ∧ totN p N su j ≠ 0 ∧ totN p M st j = totN p N su j
/-- the places of pairs -/
def PlP (p : Int) (M : Mach) (st : Int) (N : Mach) (su : Int) (kvs : List ((List L2.Key × List L2.Key) × Addr × V)) (j : Nat) : Prop := kvs.length = j ∧ ∀ (i : Nat) q, kvs[i]? = some q → q.1 = kyP (pairN p M st N su i) ∧ q.2.2 = .int (i : Int)
theorem plp_new {p : Int} {M : Mach} {st : Int} {N : Mach} {su : Int} {kvs : List ((List L2.Key × List L2.Key) × Addr × V)} {j : Nat} (h : PlP p M st N su kvs j) (hn : NewP p M st N su j) : NK.valN kvs (kyP (pairN p M st N su j)) = none := by
  unfold NK.valN
  rw [List.find?_eq_none.mpr]
  · rfl
  intro q hq hd
  obtain ⟨i, hi⟩ := List.getElem?_of_mem hq
  have hj : i < j := by rw [← h.1]; exact (List.getElem?_eq_some_iff.mp hi).1
  have e := of_decide_eq_true hd
  rw [(h.2 i q hi).1] at e
  exact hn i hj (kyP_inj e)
theorem plp_old {p : Int} {M : Mach} {st : Int} {N : Mach} {su : Int} {kvs : List ((List L2.Key × List L2.Key) × Addr × V)} {j i : Nat} (h : PlP p M st N su kvs j) (hi : i < j) (e : pairN p M st N su i = pairN p M st N su j) (hb : ∀ k, k < i → pairN p M st N su k ≠ pairN p M st N su j) : NK.valN kvs (kyP (pairN p M st N su j)) = some (.int (i : Int)) := by
  unfold NK.valN
  have hl : i < kvs.length := by rw [h.1]; exact hi
  have f : kvs.find? (fun q => decide (q.1 = kyP (pairN p M st N su j))) = some kvs[i] := by
    rw [List.find?_eq_some_iff_getElem]
    refine ⟨decide_eq_true ?_, i, hl, rfl, fun k hk => ?_⟩
    · rw [(h.2 i _ (List.getElem?_eq_getElem hl)).1, e]
    · have hkl : k < kvs.length := by omega
      rw [(h.2 k _ (List.getElem?_eq_getElem hkl)).1, decide_eq_false fun z => hb k hk (kyP_inj z)]; rfl
  rw [f]
  exact congrArg some (h.2 i _ (List.getElem?_eq_getElem hl)).2
theorem plp_snoc {p : Int} {M : Mach} {st : Int} {N : Mach} {su : Int} {kvs : List ((List L2.Key × List L2.Key) × Addr × V)} {j : Nat} {b : Addr} (h : PlP p M st N su kvs j) : PlP p M st N su (kvs ++ [(kyP (pairN p M st N su j), b, .int (j : Int))]) (j + 1) := by
  refine ⟨by rw [List.length_append, h.1]; rfl, fun i q hq => ?_⟩
  by_cases c : i < kvs.length
  · rw [List.getElem?_append_left c] at hq
    exact h.2 i q hq
  · have hi : i = kvs.length := by
      have := (List.getElem?_eq_some_iff.mp hq).1
      rw [List.length_append] at this
      have e : ([(kyP (pairN p M st N su j), b, V.int (j : Int))] : List ((List L2.Key × List L2.Key) × Addr × V)).length = 1 := rfl
      omega
    subst hi
    rw [List.getElem?_append_right (Nat.le_refl _), Nat.sub_self] at hq
    obtain rfl := Option.some.inj hq
    exact ⟨by rw [h.1], by rw [h.1]⟩
theorem good6000 {n : Nat} {i : Int} (h0 : 0 ≤ i) (h1 : i < 6000) : GoodD n (.int i) 2000 := good_int (by
  have e : i.natAbs < 2 ^ 1920 := Nat.lt_of_lt_of_le (by omega : i.natAbs < 6000) (by decide +kernel)
  refine decide_eq_true ?_
  by_cases z : i.natAbs = 0
  · rw [z]; decide
  · exact (Nat.log2_lt z).mpr e)
theorem dn_tup {P : Program} {w : World} {a : Addr} {kvs : List ((List L2.Key × List L2.Key) × Addr × V)} {ys : List V} : NK.DNo NK.fH NK.fH P w a kvs ≠ .tup ys := fun e => by
  have z : HO.ext _ = HO.tup ys := e
  cases z
theorem dn_lst {P : Program} {w : World} {a : Addr} {kvs : List ((List L2.Key × List L2.Key) × Addr × V)} {ys : List V} : NK.DNo NK.fH NK.fH P w a kvs ≠ .lst ys := fun e => by
  have z : HO.ext _ = HO.lst ys := e
  cases z
theorem PairsI.head {H : Hp} {v : V} {xs : List V} {ps : List (List Int × List Int)} (h : PairsI H (v :: xs) ps) : ∃ t, v = .ref t := by
  have hl : 0 < ps.length := by rw [← h.1]; exact Nat.succ_pos _
  obtain ⟨t, _, _, e, _⟩ := h.2 0 v _ rfl (List.getElem?_eq_getElem hl)
  exact ⟨t, e⟩
theorem PairsI.apart {H : Hp} {xs : List V} {ps : List (List Int × List Int)} {q a : Addr} {ds : List Int} (h : PairsI H xs ps) (hq : H q = some (.lst xs)) (ha : H a = some (.lst (ds.map V.int))) (hd : ds ≠ []) : a ≠ q := ne_of ha hq fun e => by
  injection e with e
  match xs, ds, h, e, hd with
  | [], [], _, _, hd => exact hd rfl
  | v :: xs, d :: ds, h, e, _ =>
    obtain ⟨t, e2⟩ := h.head
    rw [e2] at e
    cases e
theorem PairsI.putq {H : Hp} {xs : List V} {ps : List (List Int × List Int)} {q : Addr} {o' : HO} (h : PairsI H xs ps) (hq : H q = some (.lst xs)) : PairsI (upd H q o') xs ps := by
  match xs, h, hq with
  | [], h, _ => exact ⟨h.1, fun i v q e1 e2 => by cases e1⟩
  | v :: xs, h, hq =>
    obtain ⟨t, e2⟩ := h.head
    refine h.put hq (fun ys e => by cases e) (fun ds e => ?_)
    injection e with e
    match ds, e with
    | d :: ds, e => rw [e2] at e; cases e
theorem PairsI.snoc {H : Hp} {xs : List V} {ps : List (List Int × List Int)} {t a b : Addr} {q : List Int × List Int} (h : PairsI H xs ps) (ht : H t = some (.tup [.ref a, .ref b])) (ha : H a = some (.lst (q.1.map V.int))) (hb : H b = some (.lst (q.2.map V.int))) : PairsI H (xs ++ [.ref t]) (ps ++ [q]) := by
  refine ⟨by rw [List.length_append, List.length_append, h.1]; rfl, fun i v r e1 e2 => ?_⟩
  by_cases c : i < xs.length
  · rw [List.getElem?_append_left c] at e1
    rw [List.getElem?_append_left (by rw [← h.1]; exact c)] at e2
    exact h.2 i v r e1 e2
  · have hi : i = xs.length := by
      have := (List.getElem?_eq_some_iff.mp e1).1
      rw [List.length_append] at this
      simp at this
      omega
    subst hi
    rw [List.getElem?_append_right (Nat.le_refl _), Nat.sub_self] at e1
    rw [h.1, List.getElem?_append_right (Nat.le_refl _), Nat.sub_self] at e2
    obtain rfl := Option.some.inj e1
    obtain rfl := Option.some.inj e2
    exact ⟨t, a, b, rfl, ht, ha, hb⟩
/-- where match comes to its end -/
inductive MatE (K : PySem.W.Frag) (CN CR CTM CM : Addr) (x y : V) (p : Int) (M : Mach) (st : Int) (N : Mach) (su : Int) (m n : Nat) (H : Hp) (Q : VK) (E : XK) : Prop
  | back (i : Nat) (hi : i < n) (e : pairN p M st N su i = pairN p M st N su n) (hb : ∀ k, k < i → pairN p M st N su k ≠ pairN p M st N su n) (k : ∀ H' z, Same H H' → H z = none → MatAt CM H' z x y (trailP p M st N su n) (i : Int) → Q (.ref z) H')
  | most (hn : n = m) (hw : NewP p M st N su n) (hE : ∀ H', Same H H' → ErrAt K CTM "TooMany" [.int (m : Int)] H' E)
  | zero (hn : n < m) (hw : NewP p M st N su n) (h0 : totN p M st n = 0 ∨ totN p N su n = 0) (hE : ∀ H', Same H H' → ErrAt K CN "NotSingle" [] H' E)
  | unlike (hn : n < m) (hw : NewP p M st N su n) (h0 : totN p M st n ≠ 0) (h1 : totN p N su n ≠ 0) (hne : totN p M st n ≠ totN p N su n) (hE : ∀ H', Same H H' → ErrAt K CR "NoRelabelling" [.int ((n : Int) + 1)] H' E)
def spKy : Sp := fun vs H Q _ => ∃ (t a b : Addr) (q : List Int × List Int), vs = [.ref t] ∧ H t = some (.tup [.ref a, .ref b]) ∧ H a = some (.lst (q.1.map V.int)) ∧ H b = some (.lst (q.2.map V.int)) ∧
  ∀ H' k, Same H H' → H k = none → NK.KeyAt NK.fH NK.fH H' (kyP q) k → Q (.ref k) H'
def spCkp (K : PySem.W.Frag) (C CN CR : Addr) : Sp := fun vs H Q E => ∃ (x y t a b : Addr) (p : Int) (M N : Mach) (st su : Int) (n : Nat), vs = [.ref x, .ref y, .ref t, .int (n : Int)] ∧ TurAt C H x p M st ∧ OkT p M st ∧ TurAt C H y p N su ∧ OkT p N su ∧
  H t = some (.tup [.ref a, .ref b]) ∧ H a = some (.lst ((itC p M st n).map V.int)) ∧ H b = some (.lst ((itC p N su n).map V.int)) ∧ n ≤ 5000 ∧
  ((TotP p M st N su n ∧ ∀ H', Same H H' → Q .non H') ∨ ((totN p M st n = 0 ∨ totN p N su n = 0) ∧ ∀ H', Same H H' → ErrAt K CN "NotSingle" [] H' E) ∨
    (totN p M st n ≠ 0 ∧ totN p N su n ≠ 0 ∧ totN p M st n ≠ totN p N su n ∧ ∀ H', Same H H' → ErrAt K CR "NoRelabelling" [.int ((n : Int) + 1)] H' E))
def spMt (K : PySem.W.Frag) (C CPD CIC CTM CN CR CM : Addr) : Sp := fun vs H Q E => ∃ (x y : Addr) (p p' : Int) (M N : Mach) (st su : Int) (mv : V), vs = [.ref x, .ref y, mv] ∧ TurAt C H x p M st ∧ OkT p M st ∧ TurAt C H y p' N su ∧ OkT p' N su ∧
  ((p ≠ p' ∧ ErrAt K CPD "PrimesDiffer" [] H E) ∨ (p = p' ∧ ∃ d, Tell K H mv d ∧ (∀ k, mv = .int k → ¬ (1 ≤ k ∧ k ≤ 5000)) ∧ ErrAt K CIC "InvalidCount" [d] H E) ∨
    (p = p' ∧ ∃ m n : Nat, mv = .int (m : Int) ∧ 1 ≤ m ∧ m ≤ 5000 ∧ n ≤ m ∧ (∀ j, j < n → NewP p M st N su j ∧ TotP p M st N su j) ∧ MatE K CN CR CTM CM (.ref x) (.ref y) p M st N su m n H Q E))
section
variable {P : Program} {w : World} {K : PySem.W.Frag} {mg : Str → Option Value} {base : Heap} {C CPD CIC CTM CN CR CM : Addr}
theorem scKy : FnScope ["pair"] ["pair"] (defScope sKy) := ⟨rfl, rfl, rfl, by decide +kernel, rfl, by decide +kernel, by decide +kernel⟩
theorem nmKy : nmB ["pair"] [("pair", 0)] ["tuple"] (defScope sKy) = true := by decide +kernel
theorem ok_ky {f : Addr} {fd : FuncData} (F : Fun K "_key" "_key" sKy f fd) (B : Bn mg) : FnOk P w K mg base CX0 1 f fd ["pair"] spKy := by
  refine F.ok scKy (fun vs H Q E h => ?_) (fun cdv A outer s H vs Q E hr h => ?_)
  · obtain ⟨t, a, b, q, rfl, _⟩ := h
    rfl
  · obtain ⟨t, a, b, q, rfl, ht, ha, hb, k⟩ := h
    obtain ⟨b1, b2, b3, b4, b5, b6, b7, b8, b9, b10, b11⟩ := B
    refine' ex_mk ?d ?_
    case d =>
      have nm := nm_of (CX := CX0) (P := P) (w := w) (K := K) (mg := mg) (base := base) (outer := outer) (H := H) (E := E) nmKy hr
      refine' pss_one (ps_ret (pe_tup (pa_cons (n_t (x := "tuple") nm b5 call_tuple_of PyProof.Rows.boot_tuple ?g1 (pa_cons (n_ixT nm ?e1 pe_int (fun _ _ => rfl)) pa_nil)) (pa_cons (n_t (x := "tuple") nm b5 call_tuple_of PyProof.Rows.boot_tuple ?g2 (pa_cons (n_ixT nm ?e2 pe_int (fun _ _ => rfl)) pa_nil)) pa_nil))))
      case g1 => walk_at "mem"
      case e1 => walk_at "pe"
      case g2 => walk_at "mem"
      case e2 => walk_at "pe"
    refine ⟨_, rfl, t, _, 0, _, rfl, rfl, SqT.of ht, rfl, a, _, rfl, .inl ⟨SqL.of ha, fun c hc => ?_⟩⟩
    have s1 := same_new (o := .tup (q.1.map V.int)) hc
    refine ⟨_, rfl, t, _, 1, _, rfl, rfl, SqT.of (s1 _ _ ht), rfl, b, _, rfl, .inl ⟨SqL.of (s1 _ _ hb), fun d hd => ?_⟩⟩
    have s2 := same_new (o := .tup (q.2.map V.int)) hd
    refine ⟨by show 2 ≤ sizeLine; decide, fun k' hk' => ?_⟩
    have s3 := same_new (o := .tup [.ref c, .ref d]) hk'
    refine k _ k' (Same.trans s1 (Same.trans s2 s3)) (Same.free (Same.trans s1 s2) hk') ⟨.ref c, .ref d, upd_same, ⟨c, rfl, ?_⟩, ⟨d, rfl, ?_⟩⟩
    · show _ = some (HO.tup ((kyL q.1).map kV))
      rw [kyL_kV]
      exact s3 _ _ (s2 _ _ upd_same)
    · show _ = some (HO.tup ((kyL q.2).map kV))
      rw [kyL_kV]
      exact s3 _ _ upd_same
theorem scCkp : FnScope ["one", "other", "pair", "at", "totals"] ["one", "other", "pair", "at"] (defScope sCkp) := ⟨rfl, rfl, rfl, by decide +kernel, rfl, by decide +kernel, by decide +kernel⟩
theorem nmCkp : nmB ["one", "other", "pair", "at", "totals"] [("one", 0), ("other", 1), ("pair", 2), ("at", 3), ("totals", 4)] ["turn_total", "NotSingle", "NoRelabelling"] (defScope sCkp) = true := by decide +kernel
theorem ok_ckp {f : Addr} {fd : FuncData} (F : Fun K "_check_pair" "_check_pair" sCkp f fd) (C3 : Df P w K mg base 5 "turn_total" ["turner", "counts"] (spTT C)) (KN : Ke P w K mg base 10 "NotSingle" CN "NotSingle" ["self"] vs0) (KR : Ke P w K mg base 10 "NoRelabelling" CR "NoRelabelling" ["self", "at"] (vs1 K)) :
    FnOk P w K mg base (L2.CX P w) 12 f fd ["one", "other", "pair", "at"] (spCkp K C CN CR) := by
  refine F.okX scCkp (fun vs H Q E h => ?_) (fun cdv A outer s H vs Q E hr h => ?_)
  · obtain ⟨x, y, t, a, b, p, M, N, st, su, n, rfl, _⟩ := h
    rfl
  · obtain ⟨x, y, t, a, b, p, M, N, st, su, n, rfl, hT, hO, hU, hV, ht, ha, hb, hn, h⟩ := h
    refine' ex_mk ?d ?_
    case d =>
      have nm := (nm_of (CX := L2.CX P w) (P := P) (w := w) (K := K) (mg := mg) (base := base) (outer := outer) (H := H) (E := E) nmCkp hr).xe
      have hun := nm.room.un
      refine' pss_cons (ps_asg (pe_tup (pa_cons (n_d nm C3 (by decide) ?g1 (pa_cons ?a1 (pa_cons (n_ixT nm ?e1 pe_int (fun _ _ => rfl)) pa_nil))) (pa_cons (n_d nm C3 (by decide) ?g2 (pa_cons ?a2 (pa_cons (n_ixT nm ?e2 pe_int (fun _ _ => rfl)) pa_nil))) pa_nil))) ?gg)
        (pss_cons (ps_if (pt_cmpR op_in_seq pe_int ?i1 (by with_unfolding_all rfl)) (pss_one (ps_raise rfl (takes_of rfl rfl rfl rfl) (n_ke0 nm KN (by decide) ?g3))) pss_nil)
        (pss_one (ps_if (pt_cmpR op_ne (n_ixT nm ?x1 pe_int (fun _ _ => rfl)) (n_ixT nm ?x2 pe_int (fun _ _ => rfl)) (nomark _)) (pss_one (ps_raise rfl (takes_of rfl rfl rfl rfl) (n_ke nm KR (by decide) ?g4 (pa_cons ?b3 pa_nil)))) pss_nil)))
      case g1 => walk_at "mem"
      case a1 => walk_at "pe"
      case e1 => walk_at "pe"
      case g2 => walk_at "mem"
      case a2 => walk_at "pe"
      case e2 => walk_at "pe"
      case gg => walk_at "pg"
      case i1 => walk_at "pe"
      case g3 => walk_at "mem"
      case x1 => walk_at "pe"
      case x2 => walk_at "pe"
      case g4 => walk_at "mem"
      case b3 => walk_at "pe"
    have c1 := itC_ok hO.pr M st n
    have c2 := itC_ok hV.pr N su n
    refine ⟨_, rfl, _, rfl, t, _, 0, _, rfl, rfl, SqT.of ht, rfl, x, a, p, M, st, _, rfl, hT, hO, .inl ha, c1, fun H1 s1 => ?_⟩
    refine ⟨_, rfl, _, rfl, t, _, 1, _, rfl, rfl, SqT.of (s1 _ _ ht), rfl, y, b, p, N, su, _, rfl, hU.same s1, hV, .inl (s1 _ _ hb), c2, fun H2 s2 => ?_⟩
    refine ⟨by show 2 ≤ sizeLine; decide, fun q hq => ?_⟩
    have s3 := same_new (o := .tup [.int (totC p M (itC p M st n)), .int (totC p N (itC p N su n))]) hq
    have eq : upd H2 q (.tup [.int (totC p M (itC p M st n)), .int (totC p N (itC p N su n))]) q = some (.tup [.int (totC p M (itC p M st n)), .int (totC p N (itC p N su n))]) := upd_same
    have s13 := Same.trans s1 (Same.trans s2 s3)
    generalize upd H2 q (.tup [.int (totC p M (itC p M st n)), .int (totC p N (itC p N su n))]) = H3 at s3 s13 eq ⊢
    have e1 : totC p M (itC p M st n) = totN p M st n := rfl
    have e2 : totC p N (itC p N su n) = totN p N su n := rfl
    rw [e1, e2] at eq
    refine ⟨_, rfl, q, _, rfl, .inr (SqT.of eq), rfl, rfl, _, rfl, ?_⟩
    have hin : inV (V.int 0) [V.int (totN p M st n), V.int (totN p N su n)] = (decide (totN p M st n = 0) || decide (totN p N su n = 0)) := by
      show ((totN p M st n == 0) || ((totN p N su n == 0) || false)) = _
      rw [Bool.or_false]
      rfl
    rw [if_neg (by decide), hin]
    by_cases c : totN p M st n = 0 ∨ totN p N su n = 0
    · have hb : (decide (totN p M st n = 0) || decide (totN p N su n = 0)) = true := by
        rcases c with c | c <;> simp [c]
      rw [hb]
      refine iteT ?_
      rcases h with ⟨z, _⟩ | ⟨_, hE⟩ | ⟨z1, z2, _⟩
      · rcases c with c | c
        · exact absurd c z.1
        · exact absurd c z.2.1
      · exact ke_ok (by show 0 ≤ 1000; decide) ⟨rfl, rfl⟩ (hE _ s13)
      · rcases c with c | c
        · exact absurd c z1
        · exact absurd c z2
    have n1 : totN p M st n ≠ 0 := fun e => c (.inl e)
    have n2 : totN p N su n ≠ 0 := fun e => c (.inr e)
    rw [show (decide (totN p M st n = 0) || decide (totN p N su n = 0)) = false by simp [n1, n2]]
    refine iteF ?_
    refine ⟨_, rfl, q, _, 0, _, rfl, rfl, SqT.of eq, rfl, _, rfl, q, _, 1, _, rfl, rfl, SqT.of eq, rfl, rfl, _, rfl, ?_⟩
    by_cases d : totN p M st n = totN p N su n
    · rw [d]
      rw [show (!decide (V.int (totN p N su n) = V.int (totN p N su n))) = false by simp]
      refine iteF ?_
      rcases h with ⟨_, k⟩ | ⟨z, _⟩ | ⟨_, _, z, _⟩
      · exact k _ s13
      · exact absurd z c
      · exact absurd d z
    · rw [dec_int]
      rw [show (!totN p M st n == totN p N su n) = true by simp [d]]
      refine iteT ?_
      rcases h with ⟨z, _⟩ | ⟨z, _⟩ | ⟨_, _, _, hE⟩
      · exact absurd z.2.2 d
      · exact absurd z c
      · refine ⟨_, rfl, _, _, rfl, rfl, ke_ok (by show 1 ≤ 1000; decide) (Tell.vs ⟨2000, .int _, good6000 (by omega) (by omega), by decide⟩) (hE _ s13)⟩
theorem scMt : FnScope ["one", "other", "most", "pairs", "places", "pair"] ["one", "other", "most"] (defScope sMt) := ⟨rfl, rfl, rfl, by decide +kernel, rfl, by decide +kernel, by decide +kernel⟩
theorem nmMt : nmB ["one", "other", "most", "pairs", "places", "pair"] [("one", 0), ("other", 1), ("most", 2), ("pairs", 3), ("places", 4), ("pair", 5)] ["PrimesDiffer", "check_count", "MOST_COUNTS", "first_counts", "_key", "len", "TooMany", "_check_pair", "next_counts", "Match"] (defScope sMt) = true := by decide +kernel
theorem ok_mt {tG : Tok} {f : Addr} {fd : FuncData} (F : FunD K "match" "match" (defArgs sMt) (defBody sMt) (defScope sMt) [] [("most", .int 2000)] f fd) (B : Bn mg) (T' : Tc K C) (hD : mg "MOST_COUNTS" = some (.int 5000 tG)) (hM : mg "Match" = some (.ref CM)) (EP : Pf P w K mg base 1 C "prime" ["self"] (getSp C "_prime")) (KP : Ke P w K mg base 10 "PrimesDiffer" CPD "PrimesDiffer" ["self"] vs0)
    (D0 : Dx P w K mg base 12 "check_count" ["value", "least", "most"] (spCCe K CIC)) (C1 : Df P w K mg base 3 "first_counts" ["turner"] (spFC C)) (C2 : Df P w K mg base 5 "next_counts" ["turner", "counts"] (spNC C)) (DK : Df P w K mg base 1 "_key" ["pair"] spKy) (XC : Dx P w K mg base 12 "_check_pair" ["one", "other", "pair", "at"] (spCkp K C CN CR))
    (KT : Ke P w K mg base 10 "TooMany" CTM "TooMany" ["self", "most"] (vs1 K)) (KM : Kdl P w K mg base 5 CM ["self", "one", "other", "pairs", "back"] (spMi CM)) : FnOk P w K mg base (L2.CX P w) 13 f fd ["one", "other", "most"] (spMt K C CPD CIC CTM CN CR CM) := by
  refine F.ok scMt (fun vs H Q E h => ?_) (fun cdv A outer s H vs Q E hr h => ?_)
  · obtain ⟨x, y, p, p', M, N, st, su, mv, rfl, _⟩ := h
    rfl
  · obtain ⟨x, y, p, p', M, N, st, su, mv, rfl, hT, hO, hU, hV, h⟩ := h
    have hcl := T'.cl
    obtain ⟨b1, b2, b3, b4, b5, b6, b7, b8, b9, b10, b11⟩ := B
    refine' ex_mk ?d ?_
    case d =>
      have nm := (nm_of (CX := L2.CX P w) (P := P) (w := w) (K := K) (mg := mg) (base := base) (outer := outer) (H := H) (E := E) nmMt hr).xe
      have hu := nm.room.un
      refine' pss_cons (ps_if (pt_cmpR op_ne (n_p nm hcl EP (by decide) ?c1) (n_p nm hcl EP (by decide) ?c2) (nomark _)) (pss_one (ps_raise rfl (takes_of rfl rfl rfl rfl) (n_ke0 nm KP (by decide) ?g1))) pss_nil)
        (pss_cons (ps_expr (n_dX nm D0 (by decide) ?gz (takes_of rfl rfl rfl rfl) (pa_cons ?az (pa_cons pe_int (pa_cons ?cz pa_nil)))))
        (pss_cons (ps_par (i := 3) (j := 4) rfl nm.nd rfl rfl (by decide) rfl rfl (pa_cons (pe_lst pa_nil) (pa_cons (NK.pe_dnewN (A := NK.fH) (B := NK.fH)) pa_nil)) (by rfl))
        (pss_cons (ps_asg (pe_tup (pa_cons (n_d nm C1 (by decide) ?g2 (pa_cons ?a1 pa_nil)) (pa_cons (n_d nm C1 (by decide) ?g3 (pa_cons ?a2 pa_nil)) pa_nil))) ?gg)
        (pss_cons (ps_while (passes_of rfl) (pt_cmp (NK.pc_dnotinN (A := NK.fH) (B := NK.fH) (by omega) (n_d nm DK (by decide) ?g4 (pa_cons ?a3 pa_nil)) ?a4) (by with_unfolding_all rfl))
          (pss_cons (ps_if ?f1 (pss_one (ps_raise rfl (takes_of rfl rfl rfl rfl) (n_ke nm KT (by decide) ?gk (pa_cons ?ak pa_nil)))) pss_nil)
          (pss_cons (ps_expr (n_dX nm XC (by decide) ?g5 (takes_of rfl rfl rfl rfl) (pa_cons ?x1 (pa_cons ?x2 (pa_cons ?x3 (pa_cons ?x4 pa_nil))))))
          (pss_cons (NK.ps_dputN (A := NK.fH) (B := NK.fH) (by omega) ?d1 (n_d nm DK (by decide) ?g6 (pa_cons ?d2 pa_nil)) ?d3 (by rfl))
          (pss_cons ?w6 (pss_one (ps_asg (pe_tup (pa_cons (n_d nm C2 (by decide) ?g7 (pa_cons ?y1 (pa_cons (n_ixT nm ?y2 pe_int (fun _ _ => rfl)) pa_nil))) (pa_cons (n_d nm C2 (by decide) ?g8 (pa_cons ?y3 (pa_cons (n_ixT nm ?y4 pe_int (fun _ _ => rfl)) pa_nil))) pa_nil))) ?gh)))))))
        (pss_one (ps_ret (n_mkA nm hM KM (by decide) ?g9 (pa_cons ?z1 (pa_cons ?z2 (pa_cons ?z3 (pa_cons (NK.pe_dgetN (A := NK.fH) (B := NK.fH) (by omega) ?z4 (n_d nm DK (by decide) ?ga (pa_cons ?z5 pa_nil)) (fun _ _ => rfl)) pa_nil)))))))))))
      case c1 => walk_at "pe"
      case c2 => walk_at "pe"
      case g1 => walk_at "mem"
      case gz => walk_at "mem"
      case az => walk_at "pe"
      case cz => walk_at "pe"
      case g2 => walk_at "mem"
      case a1 => walk_at "pe"
      case g3 => walk_at "mem"
      case a2 => walk_at "pe"
      case gg => walk_at "pg"
      case g4 => walk_at "mem"
      case a3 => walk_at "pe"
      case a4 => walk_at "pe"
      case f1 => walk_at "pt"
      case gk => walk_at "mem"
      case ak => walk_at "pe"
      case g5 => walk_at "mem"
      case x1 => walk_at "pe"
      case x2 => walk_at "pe"
      case x3 => walk_at "pe"
      case x4 => walk_at "pe"
      case d1 => walk_at "pe"
      case g6 => walk_at "mem"
      case d2 => walk_at "pe"
      case d3 => walk_at "pe"
      case w6 => walk_at "ps"
      case g7 => walk_at "mem"
      case y1 => walk_at "pe"
      case y2 => walk_at "pe"
      case g8 => walk_at "mem"
      case y3 => walk_at "pe"
      case y4 => walk_at "pe"
      case gh => walk_at "pg"
      case g9 => walk_at "mem"
      case z1 => walk_at "pe"
      case z2 => walk_at "pe"
      case z3 => walk_at "pe"
      case z4 => walk_at "pe"
      case ga => walk_at "mem"
      case z5 => walk_at "pe"
    obtain ⟨dx, tx, xx, h1, h2, h3⟩ := id hT
    obtain ⟨dy, ty, yy, k1, k2, k3⟩ := id hU
    refine ⟨_, rfl, x, dx, _, rfl, h1, x, dx, _, _, rfl, h1, tf_p _ _ _, ?_⟩
    refine ⟨_, rfl, y, dy, _, rfl, k1, y, dy, _, _, rfl, k1, tf_p _ _ _, ?_⟩
    refine ⟨rfl, _, rfl, ?_⟩
    by_cases cpq : p = p'
    case neg =>
      rw [decide_eq_false (fun e : V.int p = V.int p' => cpq (by injection e))]
      refine iteT ?_
      rcases h with ⟨_, hE⟩ | ⟨e, _⟩ | ⟨e, _⟩
      · exact ke_ok (by show 0 ≤ 1000; decide) ⟨rfl, rfl⟩ hE
      all_goals exact absurd e cpq
    subst cpq
    rw [decide_eq_true rfl]
    refine iteF ?_
    refine ⟨_, rfl, mv, 1, 5000, rfl, ?_⟩
    rcases h with ⟨e, _⟩ | ⟨_, d, hTl, hk, hE⟩ | ⟨_, m, n, rfl, hm1, hm2, hnm, hgo, hend⟩
    · exact absurd rfl e
    · exact .inr ⟨d, hTl, hk, hE⟩
    refine .inl ⟨(m : Int), rfl, by omega, by omega, ?_⟩
    have hpl : 0 < M.length := by have := hO.st0; have := hO.st1; omega
    have hql : 0 < N.length := by have := hV.st0; have := hV.st1; omega
    have nz : ∀ (M' : Mach) (st' : Int), 0 < M'.length → ∀ j, itC p M' st' j ≠ [] := fun M' st' h0 j e => by
      have := (itC_ok hO.pr M' st' j).len
      rw [e] at this
      have e2 : ([] : List Int).length = 0 := rfl
      omega
    refine ⟨by show 0 ≤ sizeLine; decide, fun q hq0 => ?_⟩
    have s1 := same_new (o := .lst []) hq0
    have eq1 : upd H q (.lst []) q = some (.lst []) := upd_same
    generalize upd H q (.lst []) = H1 at s1 eq1 ⊢
    intro d hd0
    have s2 := same_new (o := NK.DNo NK.fH NK.fH P w d []) hd0
    have ed2 : upd H1 d (NK.DNo NK.fH NK.fH P w d []) d = some (NK.DNo NK.fH NK.fH P w d []) := upd_same
    have hdN : H d = none := Same.free s1 hd0
    refine ⟨_, _, rfl, ?_⟩
    have s12 := Same.trans s1 s2
    refine ⟨_, rfl, x, p, M, st, rfl, hT.same s12, hO, fun H3 r1 s3 hr10 hr1 => ?_⟩
    have s13 := Same.trans s12 s3
    refine ⟨_, rfl, y, p, N, su, rfl, hU.same s13, hV, fun H4 r2 s4 hr20 hr2 => ?_⟩
    have s14 := Same.trans s13 s4
    refine ⟨by show 2 ≤ sizeLine; decide, fun t ht0 => ?_⟩
    have s5 := same_new (o := .tup [.ref r1, .ref r2]) ht0
    have et : upd H4 t (.tup [.ref r1, .ref r2]) t = some (.tup [.ref r1, .ref r2]) := upd_same
    generalize upd H4 t (.tup [.ref r1, .ref r2]) = H5 at s5 et ⊢
    have s25 := Same.trans s3 (Same.trans s4 s5)
    have s15 := Same.trans s12 s25
    try dsimp (config := { proj := false }) only [gName, List.set_cons_succ, List.set_cons_zero]
    refine ⟨fun m' σ H' => ∃ (j : Nat) (xs : List V) (kvs : List ((List L2.Key × List L2.Key) × Addr × V)) (t a b : Addr), m' + j = n + 1 ∧ j ≤ n ∧ σ = [some (.ref x), some (.ref y), some (.int (m : Int)), some (.ref q), some (.ref d), some (.ref t)] ∧ Same H H' ∧ H' q = some (.lst xs) ∧ PairsI H' xs (trailP p M st N su j) ∧
        H' d = some (NK.DNo NK.fH NK.fH P w d kvs) ∧ NK.KeysAt NK.fH NK.fH H' kvs ∧ PlP p M st N su kvs j ∧ H' t = some (.tup [.ref a, .ref b]) ∧ H' a = some (.lst ((itC p M st j).map V.int)) ∧ H' b = some (.lst ((itC p N su j).map V.int)),
      ⟨n + 1, 0, [], [], t, r1, r2, rfl, Nat.zero_le _, rfl, s15, s25 _ _ (s2 _ _ eq1), ⟨rfl, fun i v q e1 e2 => (by cases e1)⟩, s25 _ _ ed2, (fun z hz => by cases hz), ⟨rfl, fun i z hz => (by cases hz)⟩, et, s5 _ _ (s4 _ _ hr1), s5 _ _ hr2⟩, ?_⟩
    rintro m' σ H6 ⟨j, xs, kvs, t6, a6, b6, hm, hjn, rfl, s6, hq6, hR, hd6, hK6, hPl, ht6, ha6, hb6⟩
    refine ⟨_, rfl, t6, a6, b6, pairN p M st N su j, rfl, ht6, ha6, hb6, fun H7 k7 s7 hk70 hk7 => ?_⟩
    have hd7 := s7 _ _ hd6
    have hK7 := hK6.stay fun b ys e => s7 _ _ e
    refine ⟨_, rfl, d, _, rfl, ⟨kvs, _, k7, hd7, hK7, rfl, hk7, rfl⟩, _, rfl, ?_⟩
    have s67 := Same.trans s6 s7
    have hxl : xs.length = j := by rw [hR.1, trailP_len]
    have hq7 := s7 _ _ hq6
    have hR7 := hR.same s7
    have ht7 := s7 _ _ ht6
    have ha7 := s7 _ _ ha6
    have hb7 := s7 _ _ hb6
    have lens : ∀ q ∈ trailP p M st N su j, q.1.length ≤ 1000 ∧ q.2.length ≤ 1000 := fun q hq => by
      unfold trailP at hq
      obtain ⟨i, _, rfl⟩ := List.mem_map.mp hq
      have := (itC_ok hO.pr M st i).len
      have := (itC_ok hO.pr N su i).len
      have := hO.le
      have := hV.le
      exact ⟨by show (itC p M st i).length ≤ 1000; omega, by show (itC p N su i).length ≤ 1000; omega⟩
    by_cases hback : ∃ i, i < j ∧ pairN p M st N su i = pairN p M st N su j
    · -- a pair comes again
      have ej : j = n := by
        rcases Nat.lt_or_ge j n with h | h
        · obtain ⟨i, hi, e⟩ := hback
          exact absurd e ((hgo j h).1 i hi)
        · omega
      subst ej
      obtain ⟨i0, hi0, e0⟩ := hback
      cases hend with
      | most _ hw _ => exact absurd e0 (hw i0 hi0)
      | zero _ hw _ _ => exact absurd e0 (hw i0 hi0)
      | unlike _ hw _ _ _ _ => exact absurd e0 (hw i0 hi0)
      | back i hi e hb kk =>
        rw [plp_old hPl hi e hb]
        refine Eq.mpr (if_neg (by simp)) ?_
        refine ⟨_, rfl, _, rfl, _, rfl, _, rfl, _, rfl, t6, a6, b6, pairN p M st N su j, rfl, ht7, ha7, hb7, fun H8 k8 s8 hk80 hk8 => ?_⟩
        refine ⟨d, .int (i : Int), rfl, ⟨kvs, _, k8, s8 _ _ hd7, hK7.stay (fun b ys e => s8 _ _ e), rfl, hk8, (plp_old hPl hi e hb).symm⟩, ?_⟩
        have s68 := Same.trans s67 s8
        intro z dz nz' ndz nez
        have u1 : Same H8 (upd (upd H8 dz (.own z)) z (.ins CM dz [])) := fun c o e => by
          rw [upd_ne (ne_of_none e nz'), upd_ne (ne_of_none e ndz)]; exact e
        refine ⟨z, dz, .ref x, .ref y, q, xs, trailP p M st N su j, (i : Int), rfl, upd_same, u1 _ _ (s8 _ _ hq7), (hR7.same s8).same u1, by omega, lens, fun Hv hkv hMat => ⟨rfl, ?_⟩⟩
        exact kk Hv z (fun c o e => hkv c o (ne_of_none (s68 _ _ e) nz') (u1 _ _ (s68 _ _ e))) (s68.free nz') hMat
    · have hnew : NewP p M st N su j := fun i hi e => hback ⟨i, hi, e⟩
      rw [plp_new hPl hnew]
      refine Eq.mpr (if_pos (by simp)) ?_
      refine ⟨fun σ' H' => j + 1 ≤ n ∧ ∃ (xs : List V) (kvs : List ((List L2.Key × List L2.Key) × Addr × V)) (t a b : Addr), σ' = [some (.ref x), some (.ref y), some (.int (m : Int)), some (.ref q), some (.ref d), some (.ref t)] ∧ Same H H' ∧ H' q = some (.lst xs) ∧ PairsI H' xs (trailP p M st N su (j + 1)) ∧
          H' d = some (NK.DNo NK.fH NK.fH P w d kvs) ∧ NK.KeysAt NK.fH NK.fH H' kvs ∧ PlP p M st N su kvs (j + 1) ∧ H' t = some (.tup [.ref a, .ref b]) ∧ H' a = some (.lst ((itC p M st (j + 1)).map V.int)) ∧ H' b = some (.lst ((itC p N su (j + 1)).map V.int)),
        fun σ' H' ⟨zz, xs, kvs, t, a, b, z⟩ => ⟨m' - 1, by omega, j + 1, xs, kvs, t, a, b, by omega, zz, z⟩, ?_⟩
      refine ⟨_, rfl, q, _, rfl, .inl (SqL.of hq7), _, rfl, rfl, _, rfl, ?_⟩
      rw [hxl]
      by_cases ejm : j = m
      · -- too many
        have ej : j = n := by omega
        rw [decide_eq_true (by rw [ejm])]
        refine iteT ?_
        have hE : ∀ H', Same H H' → ErrAt K CTM "TooMany" [.int (m : Int)] H' E := by
          subst ej
          cases hend with
          | most _ _ hE => exact hE
          | back i hi e _ _ => exact absurd e (hnew i hi)
          | zero hlt _ _ _ => exact absurd ejm (Nat.ne_of_lt hlt)
          | unlike hlt _ _ _ _ _ => exact absurd ejm (Nat.ne_of_lt hlt)
        exact ⟨_, rfl, ke_ok (by show 1 ≤ 1000; decide) (Tell.vs ⟨2000, .int _, good6000 (by omega) (by omega), by decide⟩) (hE _ s67)⟩
      rw [decide_eq_false (fun e => ejm (by injection e with e; exact Int.ofNat.inj e))]
      refine iteF ?_
      refine ⟨_, rfl, _, rfl, _, rfl, _, rfl, q, _, rfl, .inl (SqL.of hq7), ?_⟩
      rw [hxl]
      refine ⟨x, y, t6, a6, b6, p, M, N, st, su, j, rfl, hT.same s67, hO, hU.same s67, hV, ht7, ha7, hb7, by omega, ?_⟩
      by_cases htot : TotP p M st N su j
      case neg =>
        have ej : j = n := by
          rcases Nat.lt_or_ge j n with h | h
          · exact absurd (hgo j h).2 htot
          · omega
        subst ej
        cases hend with
        | most e _ _ => exact absurd e ejm
        | back i hi e _ _ => exact absurd e (hnew i hi)
        | zero _ _ h0 hE => exact .inr (.inl ⟨h0, fun H' s' => hE _ (Same.trans s67 s')⟩)
        | unlike _ _ h0 h1 hne hE => exact .inr (.inr ⟨h0, h1, hne, fun H' s' => hE _ (Same.trans s67 s')⟩)
      have ej : j < n := by
        rcases Nat.lt_or_ge j n with h | h
        · exact h
        · have ej : j = n := by omega
          subst ej
          cases hend with
          | most e _ _ => exact absurd e ejm
          | back i hi e _ _ => exact absurd e (hnew i hi)
          | zero _ _ h0 _ =>
            rcases h0 with h0 | h0
            · exact absurd h0 htot.1
            · exact absurd h0 htot.2.1
          | unlike _ _ _ _ hne _ => exact absurd htot.2.2 hne
      refine .inl ⟨htot, fun H8 s8 => ?_⟩
      have hq8 := s8 _ _ hq7
      have hd8 := s8 _ _ hd7
      refine ⟨_, rfl, q, _, rfl, .inl (SqL.of hq8), _, rfl, _, rfl, t6, a6, b6, pairN p M st N su j, rfl, s8 _ _ ht7, s8 _ _ ha7, s8 _ _ hb7, fun H9 k9 s9 hk90 hk9 => ?_⟩
      have s79 := Same.trans s8 s9
      have hd9 := s79 _ _ hd7
      have hq9 := s79 _ _ hq7
      have hK9 := hK7.stay fun b ys e => s79 _ _ e
      rw [hxl]
      have hkl := hPl.1
      refine ⟨d, _, rfl, ⟨kvs, _, k9, hd9, hK9, rfl, hk9, plp_new hPl hnew, small5000 (by omega), rfl⟩, ?_⟩
      have tk9 : ∀ b ys, H9 b = some (.tup ys) → upd H9 d (NK.DNo NK.fH NK.fH P w d (kvs ++ [(kyP (pairN p M st N su j), k9, .int (j : Int))])) b = some (.tup ys) := fun b ys e => by
        rw [upd_ne (ne_of e hd9 fun z => dn_tup z.symm)]; exact e
      have hK10 : NK.KeysAt NK.fH NK.fH (upd H9 d (NK.DNo NK.fH NK.fH P w d (kvs ++ [(kyP (pairN p M st N su j), k9, .int (j : Int))]))) (kvs ++ [(kyP (pairN p M st N su j), k9, .int (j : Int))]) := fun z hz => by
        rcases List.mem_append.mp hz with hz | hz
        · exact hK9.stay tk9 z hz
        · rw [List.mem_singleton.mp hz]
          exact hk9.stay tk9
      have hd10 : upd H9 d (NK.DNo NK.fH NK.fH P w d (kvs ++ [(kyP (pairN p M st N su j), k9, .int (j : Int))])) d = some (NK.DNo NK.fH NK.fH P w d (kvs ++ [(kyP (pairN p M st N su j), k9, .int (j : Int))])) := upd_same
      have nqd : q ≠ d := ne_of hq9 hd9 fun z => dn_lst z.symm
      have hq10 : upd H9 d (NK.DNo NK.fH NK.fH P w d (kvs ++ [(kyP (pairN p M st N su j), k9, .int (j : Int))])) q = some (.lst xs) := by rw [upd_ne nqd]; exact hq9
      have hR10 := (hR7.same s79).put (o' := NK.DNo NK.fH NK.fH P w d (kvs ++ [(kyP (pairN p M st N su j), k9, .int (j : Int))])) hd9 (fun ys => dn_tup) (fun ds => dn_lst)
      have ht10 := tk9 _ _ (s79 _ _ ht7)
      have ha10 : upd H9 d (NK.DNo NK.fH NK.fH P w d (kvs ++ [(kyP (pairN p M st N su j), k9, .int (j : Int))])) a6 = some (.lst ((itC p M st j).map V.int)) := by rw [upd_ne (ne_of (s79 _ _ ha7) hd9 fun z => dn_lst z.symm)]; exact s79 _ _ ha7
      have hb10 : upd H9 d (NK.DNo NK.fH NK.fH P w d (kvs ++ [(kyP (pairN p M st N su j), k9, .int (j : Int))])) b6 = some (.lst ((itC p N su j).map V.int)) := by rw [upd_ne (ne_of (s79 _ _ hb7) hd9 fun z => dn_lst z.symm)]; exact s79 _ _ hb7
      have s10 : Same H (upd H9 d (NK.DNo NK.fH NK.fH P w d (kvs ++ [(kyP (pairN p M st N su j), k9, .int (j : Int))]))) := same_put (Same.trans s67 s79) hdN
      refine ⟨_, rfl, .inl ⟨rfl, _, SqL.of hq10⟩, _, rfl, q, _, _, rfl, rfl, hq10, small5000 (by omega), ?_⟩
      have nzM := nz M st hpl j
      have nzN := nz N su hql j
      have hRq := hR10.putq (o' := .lst (xs ++ [.ref t6])) hq10
      have ht11 : upd (upd H9 d (NK.DNo NK.fH NK.fH P w d (kvs ++ [(kyP (pairN p M st N su j), k9, .int (j : Int))]))) q (.lst (xs ++ [.ref t6])) t6 = some (.tup [.ref a6, .ref b6]) := by rw [upd_ne (ne_of ht10 hq10 fun z => by cases z)]; exact ht10
      have ha11 : upd (upd H9 d (NK.DNo NK.fH NK.fH P w d (kvs ++ [(kyP (pairN p M st N su j), k9, .int (j : Int))]))) q (.lst (xs ++ [.ref t6])) a6 = some (.lst ((itC p M st j).map V.int)) := by rw [upd_ne (hR10.apart hq10 ha10 nzM)]; exact ha10
      have hb11 : upd (upd H9 d (NK.DNo NK.fH NK.fH P w d (kvs ++ [(kyP (pairN p M st N su j), k9, .int (j : Int))]))) q (.lst (xs ++ [.ref t6])) b6 = some (.lst ((itC p N su j).map V.int)) := by rw [upd_ne (hR10.apart hq10 hb10 nzN)]; exact hb10
      have hd11 : upd (upd H9 d (NK.DNo NK.fH NK.fH P w d (kvs ++ [(kyP (pairN p M st N su j), k9, .int (j : Int))]))) q (.lst (xs ++ [.ref t6])) d = some (NK.DNo NK.fH NK.fH P w d (kvs ++ [(kyP (pairN p M st N su j), k9, .int (j : Int))])) := by rw [upd_ne nqd.symm]; exact hd10
      have hK11 := hK10.stay (H' := upd (upd H9 d (NK.DNo NK.fH NK.fH P w d (kvs ++ [(kyP (pairN p M st N su j), k9, .int (j : Int))]))) q (.lst (xs ++ [.ref t6]))) fun b ys e => by
        rw [upd_ne (ne_of e hq10 fun z => by cases z)]; exact e
      have hR11 := hRq.snoc (q := pairN p M st N su j) ht11 ha11 hb11
      rw [← trailP_succ] at hR11
      have s11 : Same H (upd (upd H9 d (NK.DNo NK.fH NK.fH P w d (kvs ++ [(kyP (pairN p M st N su j), k9, .int (j : Int))]))) q (.lst (xs ++ [.ref t6]))) := same_put s10 hq0
      have hq11 : upd (upd H9 d (NK.DNo NK.fH NK.fH P w d (kvs ++ [(kyP (pairN p M st N su j), k9, .int (j : Int))]))) q (.lst (xs ++ [.ref t6])) q = some (.lst (xs ++ [.ref t6])) := upd_same
      have c1 := itC_ok hO.pr M st j
      have c2 := itC_ok hV.pr N su j
      refine ⟨_, rfl, _, rfl, t6, _, 0, _, rfl, rfl, SqT.of ht11, rfl, x, a6, p, M, st, _, rfl, hT.same s11, hO, .inl ha11, c1, fun Ha ra sa hra0 hra => ?_⟩
      refine ⟨_, rfl, _, rfl, t6, _, 1, _, rfl, rfl, SqT.of (sa _ _ ht11), rfl, y, b6, p, N, su, _, rfl, hU.same (Same.trans s11 sa), hV, .inl (sa _ _ hb11), c2, fun Hb rb sb hrb0 hrb => ?_⟩
      refine ⟨by show 2 ≤ sizeLine; decide, fun tn htn => ?_⟩
      have sc := same_new (o := .tup [.ref ra, .ref rb]) htn
      have sac : Same (upd (upd H9 d (NK.DNo NK.fH NK.fH P w d (kvs ++ [(kyP (pairN p M st N su j), k9, .int (j : Int))]))) q (.lst (xs ++ [.ref t6]))) (upd Hb tn (.tup [.ref ra, .ref rb])) := Same.trans sa (Same.trans sb sc)
      try dsimp (config := { proj := false }) only [gName, List.set_cons_succ, List.set_cons_zero]
      exact ⟨by omega, xs ++ [.ref t6], kvs ++ [(kyP (pairN p M st N su j), k9, .int (j : Int))], tn, ra, rb, rfl, Same.trans s11 sac, sac _ _ hq11, hR11.same sac, sac _ _ hd11, hK11.stay (fun b ys e => sac _ _ e), plp_snoc hPl, upd_same, sc _ _ (sb _ _ hra), sc _ _ hrb⟩
end

/-! where match ends -/
theorem least_of {Pr : Nat → Prop} : ∀ (n i : Nat), i ≤ n → Pr i → ∃ k, k ≤ i ∧ Pr k ∧ ∀ j, j < k → ¬ Pr j
  | 0, i, hi, h => ⟨i, Nat.le_refl _, h, fun j hj => by omega⟩
  | n + 1, i, hi, h => by
    by_cases c : ∃ j, j < i ∧ Pr j
    · obtain ⟨j, hj, hp⟩ := c
      obtain ⟨k, h1, h2, h3⟩ := least_of n j (by omega) hp
      exact ⟨k, by omega, h2, h3⟩
    · exact ⟨i, Nat.le_refl _, h, fun j hj hp => c ⟨j, hj, hp⟩⟩
section
variable {p : Int} {M : Mach} {st : Int} {N : Mach} {su : Int}
theorem mat_ex (p : Int) (M : Mach) (st : Int) (N : Mach) (su : Int) : ∀ m : Nat, ∃ n, n ≤ m ∧ (∀ j, j < n → NewP p M st N su j ∧ TotP p M st N su j) ∧ ((n = m ∧ NewP p M st N su n) ∨ ¬ NewP p M st N su n ∨ (n < m ∧ NewP p M st N su n ∧ ¬ TotP p M st N su n))
  | 0 => ⟨0, Nat.le_refl _, fun j hj => absurd hj (Nat.not_lt_zero j), .inl ⟨rfl, fun i hi => absurd hi (Nat.not_lt_zero i)⟩⟩
  | m + 1 => by
    obtain ⟨n, h1, h2, h3⟩ := mat_ex p M st N su m
    rcases h3 with ⟨rfl, hw⟩ | hw | ⟨hl, hw, ht⟩
    · by_cases ht : TotP p M st N su n
      · have go : ∀ j, j < n + 1 → NewP p M st N su j ∧ TotP p M st N su j := fun j hj => by
          rcases Nat.lt_or_ge j n with h | h
          · exact h2 j h
          · have e : j = n := by omega
            rw [e]; exact ⟨hw, ht⟩
        by_cases hw2 : NewP p M st N su (n + 1)
        · exact ⟨n + 1, Nat.le_refl _, go, .inl ⟨rfl, hw2⟩⟩
        · exact ⟨n + 1, Nat.le_refl _, go, .inr (.inl hw2)⟩
      · exact ⟨n, Nat.le_succ n, h2, .inr (.inr ⟨Nat.lt_succ_self n, hw, ht⟩)⟩
    · exact ⟨n, by omega, h2, .inr (.inl hw)⟩
    · exact ⟨n, by omega, h2, .inr (.inr ⟨by omega, hw, ht⟩)⟩
theorem not_new {n : Nat} (h : ¬ NewP p M st N su n) : ∃ i, i < n ∧ pairN p M st N su i = pairN p M st N su n ∧ ∀ k, k < i → pairN p M st N su k ≠ pairN p M st N su n := by
  by_cases c : ∃ i, i < n ∧ pairN p M st N su i = pairN p M st N su n
  · obtain ⟨i, hi, e⟩ := c
    obtain ⟨k, h1, h2, h3⟩ := least_of (Pr := fun i => pairN p M st N su i = pairN p M st N su n) i i (Nat.le_refl _) e
    exact ⟨k, by omega, h2, h3⟩
  · exact absurd (fun i hi e => c ⟨i, hi, e⟩) h
end

def nmWL : Nat → Nat → Str := fun _ _ => ("law.<locals>." : Str) ++ "<lambda>"
theorem TurAt.ext {C : Addr} {H H' : Hp} {x : Addr} {p : Int} {M : Mach} {st : Int} (h : TurAt C H x p M st) (e : LamX.ExtN H H') : TurAt C H' x p M st := by
  obtain ⟨dx, t, xs, h1, h2, h3⟩ := h
  exact ⟨dx, t, xs, e _ _ h1 (fun ps z => by cases z), ext_tup e h2, h3.1, fun i v s e1 e2 => by
    obtain ⟨a, g, rfl, e3, e4⟩ := h3.2 i v s e1 e2
    exact ⟨a, g, rfl, ext_tup e e3, ext_tup e e4⟩⟩
def eD (nm : Str) (d : PyData) : PyData := .tuple [.str nm, .tuple [d]]
def eZ (nm : Str) : PyData := .tuple [.str nm, .tuple []]
theorem good_eD {nm : Str} {d : PyData} (hn : (∀ k ∈ nm.cps.toList, k < 16 ^ 8) ∧ 10 * nm.length + 2 ≤ 6000) (h : GoodD 8 d 5000) : GoodD 10 (eD nm d) 20000 :=
  (good_tup (n := 9) (m := 6000) (by show 2 ≤ 1000; decide) fun e he => by
    rcases List.mem_cons.mp he with z | z
    · rw [z]; exact hn
    · rw [List.mem_singleton.mp z]
      exact (good_tup (n := 8) (m := 5000) (by show 1 ≤ 1000; decide) fun e he => by rw [List.mem_singleton.mp he]; exact h).up (by show 1 * (5000 + 2) + 5 ≤ 6000; decide)).up (by show 2 * (6000 + 2) + 5 ≤ 20000; decide)
theorem good_eZ {nm : Str} (hn : (∀ k ∈ nm.cps.toList, k < 16 ^ 8) ∧ 10 * nm.length + 2 ≤ 6000) : GoodD 10 (eZ nm) 20000 :=
  (good_tup (n := 9) (m := 6000) (by show 2 ≤ 1000; decide) fun e he => by
    rcases List.mem_cons.mp he with z | z
    · rw [z]; exact hn
    · rw [List.mem_singleton.mp z]
      exact (good_tup (n := 8) (m := 5000) (by show 0 ≤ 1000; decide) fun e he => by cases he).up (by show 0 * (5000 + 2) + 5 ≤ 6000; decide)).up (by show 2 * (6000 + 2) + 5 ≤ 20000; decide)
def dpR (K : PySem.W.Frag) (e : PyData) : V → Hp → Prop := fun x H => Dp K H x e
theorem out_val {cs : Cells} {Hb H0 : Hp} {Q : VK} {R : V → Hp → Prop} {v : V} {H1 : Hp} (l : Lent cs H0) (hQ : ∀ v H1, Same H0 H1 → (∀ p H2, Same Hb H2 → Same (newOf H0 H1) H2 → H2 p = some (.tup [.str "", v]) → R (.ref p) H2) → Q v H1) (s : Same (unlend cs H0) H1)
    (hR : ∀ p H2, Same Hb H2 → Same (newOf (unlend cs H0) H1) H2 → H2 p = some (.tup [.str "", v]) → R (.ref p) H2) : NoC cs H1 → Q v (lend cs H1) := fun nc => by
  refine hQ v (lend cs H1) (lend_unlend_same l s) fun p H2 sb sn hp => hR p H2 sb (fun b o z => ?_) hp
  have e1 := newOf_old z
  have e2 := newOf_same _ _ z
  have e3 : cs.lookup b = none := by
    cases q : cs.lookup b with
    | none => rfl
    | some ob => rw [nc b ob q] at e2; cases e2
  rw [unlend_out e3] at e1
  exact sn _ _ (newOf_at e1 (by rw [lend_out e3]; exact e2))

section
variable {P : Program} {w : World} {K : PySem.W.Frag} {mg : Str → Option Value} {base : Heap}
end

/-! pairs of lists of whole numbers, as data -/
def prD (q : List Int × List Int) : PyData := .tuple [.list (q.1.map PyData.int), .list (q.2.map PyData.int)]
theorem eqv_pr (a b : List Int × List Int) : PyData.eqv (prD a) (prD b) = decide (a = b) := by
  obtain ⟨a1, a2⟩ := a
  obtain ⟨b1, b2⟩ := b
  unfold prD
  rw [PyData.eqv, PyData.eqvAll, PyData.eqvAll, PyData.eqvAll, PyData.eqv, PyData.eqv, eqv_ints2, eqv_ints2]
  by_cases h : a1 = b1 <;> by_cases g : a2 = b2 <;> simp [h, g]
theorem any_pr (ks : List (List Int × List Int)) (k : List Int × List Int) : ((ks.map prD).any fun z => PyData.eqv z (prD k)) = decide (k ∈ ks) := by
  induction ks with
  | nil => rfl
  | cons c r ih =>
    rw [List.map_cons, List.any_cons, ih, eqv_pr]
    by_cases h : c = k
    · simp [h]
    · have h2 : ¬ k = c := fun e => h e.symm
      simp [h, h2]
theorem lay_pr (k : List Int × List Int) : PyData.canLay0 (prD k) = true := by
  unfold prD
  rw [PyData.canLay0, PyData.canLayAll0, PyData.canLayAll0, PyData.canLayAll0, PyData.canLay0, PyData.canLay0, lay_ints, lay_ints]
  rfl
theorem depth_pr (k : List Int × List Int) : PyData.depth (prD k) ≤ 2 := by
  unfold prD
  rw [PyData.depth, PyData.depthAll, PyData.depthAll, PyData.depthAll, PyData.depth, PyData.depth, depth_ints, depth_ints]
  decide
theorem lay_prs : ∀ ks : List (List Int × List Int), PyData.canLayAll0 (ks.map prD) = true
  | [] => by simp [PyData.canLayAll0]
  | d :: r => by rw [List.map_cons, PyData.canLayAll0, lay_prs r, lay_pr]; rfl
theorem depth_prs : ∀ ks : List (List Int × List Int), PyData.depthAll (ks.map prD) ≤ 2
  | [] => by simp [PyData.depthAll]
  | d :: r => by
    rw [List.map_cons, PyData.depthAll]
    have := depth_prs r
    have := depth_pr d
    omega
theorem shaped_pr (k : List Int × List Int) : SeqAt.shaped (prD k) = true := by
  have h := depth_pr k
  unfold SeqAt.shaped
  rw [lay_pr]
  simp only [Bool.true_and, decide_eq_true_eq]
  omega
theorem shaped_prs (ks : List (List Int × List Int)) : SeqAt.shaped (.list (ks.map prD)) = true := by
  have h := depth_prs ks
  unfold SeqAt.shaped
  rw [PyData.canLay0, PyData.depth, lay_prs]
  simp only [Bool.true_and, decide_eq_true_eq]
  omega
theorem dp_pr {K : PySem.W.Frag} {H : Hp} {t a b : Addr} {q : List Int × List Int} (ht : H t = some (.tup [.ref a, .ref b])) (ha : H a = some (.lst (q.1.map V.int))) (hb : H b = some (.lst (q.2.map V.int))) : Dp K H (.ref t) (prD q) :=
  .tup (SqT.of ht) (.cons (.lst (SqL.of ha) (dp_ints q.1)) (.cons (.lst (SqL.of hb) (dp_ints q.2)) .nil))
theorem dp_prs {K : PySem.W.Frag} {H : Hp} : ∀ (xs : List V) (ks : List (List Int × List Int)), PairsI H xs ks → DpAll K H xs (ks.map prD)
  | [], [], _ => .nil
  | [], s :: r, h => by cases h.1
  | x :: xs, [], h => by cases h.1
  | x :: xs, s :: r, h => by
    obtain ⟨t, a, b, rfl, ht, ha, hb⟩ := h.2 0 x s rfl rfl
    exact .cons (dp_pr ht ha hb) (dp_prs xs r ⟨Nat.succ.inj h.1, fun i y t h1 h2 => h.2 (i + 1) y t h1 h2⟩)
theorem in_prs {K : PySem.W.Frag} {H : Hp} {t a b r : Addr} {q : List Int × List Int} {xs : List V} {ks : List (List Int × List Int)} {Q : V → Hp → Prop} (ht : H t = some (.tup [.ref a, .ref b])) (ha : H a = some (.lst (q.1.map V.int))) (hb : H b = some (.lst (q.2.map V.int)))
    (hr : H r = some (.lst xs)) (hx : PairsI H xs ks) (k : Q (.bl (decide (q ∈ ks))) H) : rInD K (.ref t) (.ref r) H Q := by
  refine ⟨_, _, dp_pr ht ha hb, .lst (SqL.of hr) (dp_prs xs ks hx), shaped_pr q, shaped_prs ks, ?_⟩
  rw [any_pr]
  exact k
theorem index_prs {K : PySem.W.Frag} {H : Hp} {t a b r : Addr} {q : List Int × List Int} {xs : List V} {ks : List (List Int × List Int)} {i : Nat} {Q : V → Hp → Prop} (ht : H t = some (.tup [.ref a, .ref b])) (ha : H a = some (.lst (q.1.map V.int))) (hb : H b = some (.lst (q.2.map V.int)))
    (hr : H r = some (.lst xs)) (hx : PairsI H xs ks) (hi : ks[i]? = some q) (hm : ∀ m z, m < i → ks[m]? = some z → z ≠ q) (k : Q (.int (i : Nat)) H) : rIndexD K (.ref r) [.ref t] H Q := by
  refine ⟨r, .ref t, _, _, i, prD q, rfl, rfl, .lst (SqL.of hr) (dp_prs xs ks hx), dp_pr ht ha hb, shaped_prs ks, shaped_pr q, ?_, ?_, fun m z hmm hz => ?_, k⟩
  · rw [List.getElem?_map, hi]; rfl
  · rw [eqv_pr]; simp
  · rw [List.getElem?_map] at hz
    cases e : ks[m]? with
    | none => rw [e] at hz; cases hz
    | some c =>
      rw [e] at hz
      obtain rfl := Option.some.inj hz
      rw [eqv_pr]
      exact decide_eq_false (hm m c hmm e)

/-! pairs copied, all new -/
def PairsF (H0 H : Hp) (xs : List V) (ps : List (List Int × List Int)) : Prop := xs.length = ps.length ∧ ∀ (i : Nat) v q, xs[i]? = some v → ps[i]? = some q → ∃ t a b, v = .ref t ∧ H0 t = none ∧ H0 a = none ∧ H0 b = none ∧ H t = some (.tup [.ref a, .ref b]) ∧ H a = some (.lst (q.1.map V.int)) ∧ H b = some (.lst (q.2.map V.int))
theorem PairsF.pi {H0 H : Hp} {xs : List V} {ps : List (List Int × List Int)} (h : PairsF H0 H xs ps) : PairsI H xs ps := ⟨h.1, fun i v q e1 e2 => by
  obtain ⟨t, a, b, e, _, _, _, h1, h2, h3⟩ := h.2 i v q e1 e2
  exact ⟨t, a, b, e, h1, h2, h3⟩⟩
theorem PairsF.same {H0 H H' : Hp} {xs : List V} {ps : List (List Int × List Int)} (h : PairsF H0 H xs ps) (s : Same H H') : PairsF H0 H' xs ps := ⟨h.1, fun i v q e1 e2 => by
  obtain ⟨t, a, b, e, n1, n2, n3, h1, h2, h3⟩ := h.2 i v q e1 e2
  exact ⟨t, a, b, e, n1, n2, n3, s _ _ h1, s _ _ h2, s _ _ h3⟩⟩
theorem PairsF.past {G H0 H : Hp} {xs : List V} {ps : List (List Int × List Int)} (h : PairsF H0 H xs ps) (s : Same G H0) : PairsF G H xs ps := ⟨h.1, fun i v q e1 e2 => by
  obtain ⟨t, a, b, e, n1, n2, n3, h1, h2, h3⟩ := h.2 i v q e1 e2
  exact ⟨t, a, b, e, Same.free s n1, Same.free s n2, Same.free s n3, h1, h2, h3⟩⟩
def spCp2f : Sp := fun vs H Q _ => ∃ (a : Addr) (xs : List V) (ps : List (List Int × List Int)), vs = [.ref a] ∧ H a = some (.lst xs) ∧ PairsI H xs ps ∧ xs.length ≤ 5000 ∧ (∀ q ∈ ps, q.1.length ≤ 1000 ∧ q.2.length ≤ 1000) ∧ ∀ H' r ys, Same H H' → H r = none → H' r = some (.lst ys) → PairsF H H' ys ps → Q (.ref r) H'
section
variable {P : Program} {w : World} {K : PySem.W.Frag} {mg : Str → Option Value} {base : Heap}
theorem ok_cp2f {f : Addr} {fd : FuncData} (F : Fun K "copied" "copied" sCp f fd) (B : Bn mg) (D : Df P w K mg base 3 "copied" ["value"] spCq) : FnOk P w K mg base CX0 4 f fd ["value"] spCp2f := by
  refine F.ok scCp (fun vs H Q E h => ?_) (fun cdv A outer s H vs Q E hr h => ?_)
  · obtain ⟨a, xs, ps, rfl, _⟩ := h
    rfl
  · obtain ⟨a, xs, ps, rfl, ha, hR, hz, hzs, k⟩ := h
    obtain ⟨b1, b2, b3, b4, b5, b6, b7, b8, b9, b10, b11⟩ := B
    refine' ex_mk ?d ?_
    case d =>
      have nm := nm_of (CX := CX0) (P := P) (w := w) (K := K) (mg := mg) (base := base) (outer := outer) (H := H) (E := E) nmCp hr
      refine' pss_cons (ps_if ?c1 (pss_one (ps_ret ?lc)) pss_nil) (pss_cons (ps_if ?c2 (pss_one ps_never) pss_nil) (pss_one ?ret))
      case c1 => walk_at "pt"
      case c2 => walk_at "pt"
      case ret => walk_at "ps"
      case lc =>
        refine' n_lc (own := [("item", 1)]) (g := gName 1) (NS' := [("item", 1)]) (WS' := [("item", 1)]) (G' := ["copied"]) (N := ["value", "item"]) (scD := defScope sCp) nm rfl rfl (by decide +kernel) (by decide +kernel) (pi_list ?li) (fun X' nm2 => ?lg) (fun X' nm2 => ?le)
        case li => walk_at "pe"
        case lg => walk_at "pg"
        case le =>
          refine' n_d nm2 D (by decide) ?ug ?ua
          case ug => walk_at "mem"
          case ua => walk_at "pa"
    refine ⟨_, rfl, _, _, _, _, _, rfl, .ty "list", .base (.lst ha), kit_ty (by decide +kernel : kitB "list" "list" = some true), _, rfl, ?_⟩
    refine iteT ?_
    refine ⟨_, rfl, a, rfl, ⟨_, SqL.of ha⟩, fun Dl hD => ?_⟩
    refine lcN (K := K) (xs := xs) (R := fun i z H' => ∀ q, ps[i]? = some q → ∃ t c d, z = .ref t ∧ (c ≠ Dl ∧ d ≠ Dl ∧ t ≠ Dl ∧ H t = none ∧ H c = none ∧ H d = none) ∧ H' t = some (.tup [.ref c, .ref d]) ∧ H' c = some (.lst (q.1.map V.int)) ∧ H' d = some (.lst (q.2.map V.int))) (sj_L (K := K) fun H5 s5 => SqL.of (s5 _ _ ha)) hD (small5000 (by omega))
      (fun i z H2 H3 e h q hq => ?_) (fun i z H2 zs h q hq => ?_) ?_ ?_ gm_name
    · obtain ⟨t, c, d, e1, n1, e2, e3, e4⟩ := h q hq
      exact ⟨t, c, d, e1, n1, e _ _ e2, e _ _ e3, e _ _ e4⟩
    · obtain ⟨t, c, d, e1, ⟨n1, n2, n3, n4⟩, e2, e3, e4⟩ := h q hq
      exact ⟨t, c, d, e1, ⟨n1, n2, n3, n4⟩, by rw [upd_ne n3]; exact e2, by rw [upd_ne n1]; exact e3, by rw [upd_ne n2]; exact e4⟩
    · intro j v H3 Qk hv s3 hys kk
      obtain ⟨zs, hDl⟩ := hys
      have hj : j < ps.length := by rw [← hR.1]; exact (List.getElem?_eq_some_iff.mp hv).1
      have hq : ps[j]? = some ps[j] := List.getElem?_eq_getElem hj
      obtain ⟨t, c, d, rfl, g1, g2, g3⟩ := hR.2 j v _ hv hq
      have hz2 := hzs _ (List.getElem_mem hj)
      refine ⟨rfl, _, rfl, t, c, d, ps[j], rfl, s3 _ _ g1, s3 _ _ g2, s3 _ _ g3, hz2.1, hz2.2, fun H4 t' c' d' s4 ht0 hc0 hd0 ht' hc' hd' => ?_⟩
      have hD4 := s4 _ _ hDl
      refine kk _ H4 s4 fun q h => ?_
      rw [hq] at h
      obtain rfl := Option.some.inj h
      exact ⟨t', c', d', rfl, ⟨(ne_of_none hDl hc0).symm, (ne_of_none hDl hd0).symm, (ne_of_none hDl ht0).symm, Same.free s3 ht0, Same.free s3 hc0, Same.free s3 hd0⟩, ht', hc', hd'⟩
    · intro ys H3 s3 hDl hyl hRR
      refine k H3 Dl ys s3 hD hDl ⟨by rw [hyl, hR.1], fun i v q h1 h2 => ?_⟩
      obtain ⟨t, c, d, e1, ⟨_, _, _, n1, n2, n3⟩, e2, e3, e4⟩ := hRR i v h1 q h2
      exact ⟨t, c, d, e1, n1, n2, n3, e2, e3, e4⟩
end

/-! what a match shows -/
abbrev sMp : Stmt := inClass (top 43) 3
abbrev sMb : Stmt := inClass (top 43) 4
abbrev sMtl : Stmt := top 81
abbrev sIpr : Stmt := top 42
def spMp (C : Addr) : Sp := fun vs H Q _ => ∃ (z : Addr) (x y : V) (ps : List (List Int × List Int)) (b : Int), vs = [.ref z] ∧ MatAt C H z x y ps b ∧ ps.length ≤ 5000 ∧ (∀ q ∈ ps, q.1.length ≤ 1000 ∧ q.2.length ≤ 1000) ∧
  ∀ H' r ys, Same H H' → H r = none → H' r = some (.lst ys) → PairsF H H' ys ps → Q (.ref r) H'
def spMb (C : Addr) : Sp := fun vs H Q _ => ∃ (z : Addr) (x y : V) (ps : List (List Int × List Int)) (b : Int), vs = [.ref z] ∧ MatAt C H z x y ps b ∧ Q (.int b) H
def spMtl (C : Addr) : Sp := fun vs H Q _ => ∃ (z : Addr) (x y : V) (ps : List (List Int × List Int)) (b : Int), vs = [.ref z] ∧ MatAt C H z x y ps b ∧ ps.length ≤ 5000 ∧ (∀ q ∈ ps, q.1.length ≤ 1000 ∧ q.2.length ≤ 1000) ∧
  ∀ H' t r ys, Same H H' → H t = none → H r = none → H' t = some (.tup [.ref r, .int b]) → H' r = some (.lst ys) → PairsF H H' ys ps → Q (.ref t) H'
def spIpr : Sp := fun vs H Q _ => ∃ (t : Addr) (a b : V), vs = [.ref t] ∧ H t = some (.tup [a, b]) ∧ Q (.bl true) H
section
variable {P : Program} {w : World} {K : PySem.W.Frag} {mg : Str → Option Value} {base : Heap} {C : Addr}
theorem scMp : FnScope ["self"] ["self"] (defScope sMp) := ⟨rfl, rfl, rfl, by decide +kernel, rfl, by decide +kernel, by decide +kernel⟩
theorem nmMp : nmB ["self"] [("self", 0)] ["copied"] (defScope sMp) = true := by decide +kernel
theorem ok_mp {f : Addr} {fd : FuncData} (F : Fun K "pairs" "Match.pairs" sMp f fd) (T : Mc K C) (D : Df P w K mg base 4 "copied" ["value"] spCp2f) : FnOk P w K mg base CX0 5 f fd ["self"] (spMp C) := by
  refine F.ok scMp (fun vs H Q E h => ?_) (fun cdv A outer s H vs Q E hr h => ?_)
  · obtain ⟨z, x, y, ps, b, rfl, _⟩ := h
    rfl
  · obtain ⟨z, x, y, ps, b, rfl, ⟨dz, r, ys, h1, h2, h3⟩, hl, hc, k⟩ := h
    refine' ex_mk ?d ?_
    case d =>
      have nm := nm_of (CX := CX0) (P := P) (w := w) (K := K) (mg := mg) (base := base) (outer := outer) (H := H) (E := E) nmMp hr
      walk_at "pss"
    exact ⟨_, rfl, z, C, dz, _, _, rfl, h1, T.cl, T.n3, fsM_p _ _ _ _, r, ys, ps, rfl, h2, h3, by rw [h3.1]; exact hl, hc, k⟩
theorem scMb : FnScope ["self"] ["self"] (defScope sMb) := ⟨rfl, rfl, rfl, by decide +kernel, rfl, by decide +kernel, by decide +kernel⟩
theorem nmMb : nmB ["self"] [("self", 0)] ["copied"] (defScope sMb) = true := by decide +kernel
theorem ok_mb {f : Addr} {fd : FuncData} (F : Fun K "back" "Match.back" sMb f fd) (T : Mc K C) (D : Df P w K mg base 1 "copied" ["value"] spC0) : FnOk P w K mg base CX0 2 f fd ["self"] (spMb C) := by
  refine F.ok scMb (fun vs H Q E h => ?_) (fun cdv A outer s H vs Q E hr h => ?_)
  · obtain ⟨z, x, y, ps, b, rfl, _⟩ := h
    rfl
  · obtain ⟨z, x, y, ps, b, rfl, ⟨dz, r, ys, h1, h2, h3⟩, k⟩ := h
    refine' ex_mk ?d ?_
    case d =>
      have nm := nm_of (CX := CX0) (P := P) (w := w) (K := K) (mg := mg) (base := base) (outer := outer) (H := H) (E := E) nmMb hr
      walk_at "pss"
    exact ⟨_, rfl, z, C, dz, _, _, rfl, h1, T.cl, T.n4, rfl, _, rfl, .inl ⟨_, rfl⟩, k⟩
theorem scMtl : FnScope ["_law_found"] ["_law_found"] (defScope sMtl) := ⟨rfl, rfl, rfl, by decide +kernel, rfl, by decide +kernel, by decide +kernel⟩
theorem nmMtl : nmB ["_law_found"] [("_law_found", 0)] [] (defScope sMtl) = true := by decide +kernel
theorem ok_mtl {f : Addr} {fd : FuncData} (F : Fun K "_law_match_told" "_law_match_told" sMtl f fd) (T : Mc K C) (EA : Pf P w K mg base 5 C "pairs" ["self"] (spMp C)) (EB : Pf P w K mg base 2 C "back" ["self"] (spMb C)) : FnOk P w K mg base CX0 7 f fd ["_law_found"] (spMtl C) := by
  refine F.ok scMtl (fun vs H Q E h => ?_) (fun cdv A outer s H vs Q E hr h => ?_)
  · obtain ⟨z, x, y, ps, b, rfl, _⟩ := h
    rfl
  · obtain ⟨z, x, y, ps, b, rfl, hM, hl, hc, k⟩ := h
    have hcl := T.cl
    refine' ex_mk ?d ?_
    case d =>
      have nm := nm_of (CX := CX0) (P := P) (w := w) (K := K) (mg := mg) (base := base) (outer := outer) (H := H) (E := E) nmMtl hr
      refine' pss_one (ps_ret (pe_tup (pa_cons (n_p nm hcl EA (by decide) ?a1) (pa_cons (n_p nm hcl EB (by decide) ?a2) pa_nil))))
      case a1 => walk_at "pe"
      case a2 => walk_at "pe"
    obtain ⟨dz, r0, ys0, h1, h2, h3⟩ := id hM
    refine ⟨_, rfl, z, dz, _, rfl, h1, z, x, y, ps, b, rfl, hM, hl, hc, fun H1 r ys s1 hr0 hr1 hp => ?_⟩
    refine ⟨_, rfl, z, dz, _, rfl, s1 _ _ h1, z, x, y, ps, b, rfl, hM.same s1, by show 2 ≤ sizeLine; decide, fun t ht => ?_⟩
    have s2 := same_new (o := .tup [.ref r, .int b]) ht
    exact k _ t r ys (Same.trans s1 s2) (Same.free s1 ht) hr0 upd_same (s2 _ _ hr1) (hp.same s2)
theorem scIpr : FnScope ["value"] ["value"] (defScope sIpr) := ⟨rfl, rfl, rfl, by decide +kernel, rfl, by decide +kernel, by decide +kernel⟩
theorem nmIpr : nmB ["value"] [("value", 0)] ["isinstance", "tuple", "len"] (defScope sIpr) = true := by decide +kernel
theorem ok_ipr {f : Addr} {fd : FuncData} (F : Fun K "_is_pair" "_is_pair" sIpr f fd) (B : Bn mg) : FnOk P w K mg base CX0 1 f fd ["value"] spIpr := by
  refine F.ok scIpr (fun vs H Q E h => ?_) (fun cdv A outer s H vs Q E hr h => ?_)
  · obtain ⟨t, a, b, rfl, _⟩ := h
    rfl
  · obtain ⟨t, a, b, rfl, ht, k⟩ := h
    obtain ⟨b1, b2, b3, b4, b5, b6, b7, b8, b9, b10, b11⟩ := B
    refine' ex_mk ?d ?_
    case d =>
      have nm := nm_of (CX := CX0) (P := P) (w := w) (K := K) (mg := mg) (base := base) (outer := outer) (H := H) (E := E) nmIpr hr
      walk_at "pss"
    refine ⟨_, rfl, _, _, _, _, _, rfl, .ty "tuple", .base (.tup ht), kit_ty (by decide +kernel : kitB "tuple" "tuple" = some true), ?_⟩
    refine ⟨_, rfl, ?_⟩
    refine iteT ?_
    refine ⟨_, rfl, t, _, rfl, .inr (SqT.of ht), ?_⟩
    exact ⟨rfl, k⟩
end

/-! a list of pairs of counts, taken apart -/
theorem go_it {p : Int} {M : Mach} {st : Int} : ∀ (n i : Nat), goB p M (itC p M st i) ((List.range n).map fun j => itC p M st (i + j)) = true
  | 0, _ => rfl
  | n + 1, i => by
    rw [List.range_succ_eq_map, List.map_cons, List.map_map, goB]
    have h := go_it (p := p) (M := M) (st := st) n (i + 1)
    rw [show ((List.range n).map ((fun j => itC p M st (i + j)) ∘ Nat.succ)) = (List.range n).map fun j => itC p M st (i + 1 + j) from List.map_congr_left fun j _ => by show itC p M st (i + (j + 1)) = _; rw [Nat.add_assoc, Nat.add_comm 1 j]]
    rw [Nat.add_zero, decide_eq_true rfl, Bool.true_and]
    exact h
theorem are_it {p : Int} {M : Mach} {cs : List Int} (h : CsOk p M cs) : areB p M.length cs = true := by
  unfold areB
  rw [decide_eq_true h.len, Bool.true_and]
  refine List.all_eq_true.mpr fun b hb => ?_
  obtain ⟨d, hd, rfl⟩ := List.mem_map.mp hb
  exact belowV_in (h.val d hd)
theorem trail_B {p : Int} {M : Mach} {st : Int} (h : OkT p M st) (n : Nat) : trailB p M st (trail p M st (n + 1)) = true := by
  unfold trailB
  rw [Bool.and_eq_true_iff, Bool.and_eq_true_iff]
  refine ⟨decide_eq_true fun e => ?_, ?_, ?_⟩
  · have := trail_len (p := p) (M := M) (st := st) (n := n + 1)
    rw [e] at this
    cases this
  · refine List.all_eq_true.mpr fun b hb => ?_
    obtain ⟨cs, hcs, rfl⟩ := List.mem_map.mp hb
    unfold trail at hcs
    obtain ⟨i, _, rfl⟩ := List.mem_map.mp hcs
    exact are_it (itC_ok h.pr M st i)
  · have := go_it (p := p) (M := M) (st := st) (n + 1) 0
    simp only [Nat.zero_add] at this
    exact this
theorem RowsI.ins {H : Hp} {xs : List V} {css : List (List Int)} {y D dx : Addr} {fs gs : List (Str × V)} (h : RowsI H xs css) (hy : H y = some (.ins D dx fs)) : RowsI (upd H y (.ins D dx gs)) xs css := ⟨h.1, fun i v cs h1 h2 => by
  obtain ⟨a, rfl, h3⟩ := h.2 i v cs h1 h2
  exact ⟨a, rfl, by rw [upd_ne (ne_of h3 hy (by intro z; cases z))]; exact h3⟩⟩
theorem RowsI.cons {H : Hp} {a : Addr} {cs : List Int} {xs : List V} {css : List (List Int)} (h : RowsI H xs css) (ha : H a = some (.lst (cs.map V.int))) : RowsI H (.ref a :: xs) (cs :: css) := ⟨by rw [List.length_cons, List.length_cons, h.1], fun i v c e1 e2 => by
  match i, e1, e2 with
  | 0, e1, e2 =>
    obtain rfl := Option.some.inj e1
    obtain rfl := Option.some.inj e2
    exact ⟨a, rfl, ha⟩
  | i + 1, e1, e2 => exact h.2 i v c e1 e2⟩
theorem pairs_split {H : Hp} : ∀ (xs : List V) (ps : List (List Int × List Int)), PairsI H xs ps → ∃ as bs : List V, as.length = xs.length ∧ bs.length = xs.length ∧ RowsI H as (ps.map Prod.fst) ∧ RowsI H bs (ps.map Prod.snd) ∧ ∀ (j : Nat) v, xs[j]? = some v → ∃ t a b, v = .ref t ∧ as[j]? = some a ∧ bs[j]? = some b ∧ H t = some (.tup [a, b])
  | [], [], _ => ⟨[], [], rfl, rfl, ⟨rfl, fun i v cs e _ => by simp at e⟩, ⟨rfl, fun i v cs e _ => by simp at e⟩, fun j v e => by simp at e⟩
  | [], q :: ps, h => by cases h.1
  | x :: xs, [], h => by cases h.1
  | x :: xs, q :: ps, h => by
    obtain ⟨t, a, b, rfl, ht, ha, hb⟩ := h.2 0 x q rfl rfl
    obtain ⟨as, bs, e1, e2, h1, h2, h3⟩ := pairs_split xs ps ⟨Nat.succ.inj h.1, fun i v q e1 e2 => h.2 (i + 1) v q e1 e2⟩
    refine ⟨.ref a :: as, .ref b :: bs, by rw [List.length_cons, e1, List.length_cons], by rw [List.length_cons, e2, List.length_cons], h1.cons ha, h2.cons hb, fun j v e => ?_⟩
    match j, e with
    | 0, e => obtain rfl := Option.some.inj e; exact ⟨t, _, _, rfl, rfl, rfl, ht⟩
    | j + 1, e => exact h3 j v e
theorem trailP_fst (p : Int) (M : Mach) (st : Int) (N : Mach) (su : Int) (n : Nat) : (trailP p M st N su n).map Prod.fst = trail p M st n := by
  unfold trailP trail
  rw [List.map_map]; rfl
theorem trailP_snd (p : Int) (M : Mach) (st : Int) (N : Mach) (su : Int) (n : Nat) : (trailP p M st N su n).map Prod.snd = trail p N su n := by
  unfold trailP trail
  rw [List.map_map]; rfl
theorem trail_few {p : Int} {M : Mach} {st : Int} (h : OkT p M st) (n : Nat) : ∀ cs ∈ trail p M st n, cs.length ≤ 1000 := fun cs hcs => by
  unfold trail at hcs
  obtain ⟨i', _, rfl⟩ := List.mem_map.mp hcs
  have := (itC_ok h.pr M st i').len
  have := h.le
  omega

/-! Match.holds -/
abbrev sMh : Stmt := inClass (top 43) 5
/-- a match of a trail of pairs that comes again holds -/
def spMh (C CM : Addr) : Sp := fun vs H Q _ => ∃ (z dz x y r : Addr) (p : Int) (M N : Mach) (st su : Int) (ys : List V) (n i : Nat), vs = [.ref z] ∧ H z = some (.ins CM dz (fsM (.ref x) (.ref y) (.ref r) (.int (i : Int)))) ∧ TurAt C H x p M st ∧ OkT p M st ∧ TurAt C H y p N su ∧ OkT p N su ∧
  H r = some (.lst ys) ∧ PairsI H ys (trailP p M st N su n) ∧ n ≤ 900 ∧ i < n ∧ (∀ j, j < n → TotP p M st N su j) ∧ pairN p M st N su i = pairN p M st N su n ∧ ∀ H', Same H H' → Q (.bl true) H'
section
variable {P : Program} {w : World} {K : PySem.W.Frag} {mg : Str → Option Value} {base : Heap} {C CM CN : Addr}
theorem scMh : FnScope ["self", "ones", "others", "totals", "pair", "counts"] ["self"] (defScope sMh) := ⟨rfl, rfl, rfl, by decide +kernel, rfl, by decide +kernel, by decide +kernel⟩
theorem nmMh : nmB ["self", "ones", "others", "totals", "pair", "counts"] [("self", 0), ("ones", 1), ("others", 2), ("totals", 3)] ["isinstance", "list", "tuple", "all", "Single"] (defScope sMh) = true := by decide +kernel
set_option maxHeartbeats 0 in
theorem ok_mh {f : Addr} {fd : FuncData} (F : Fun K "holds" "Match.holds" sMh f fd) (B : Bn mg) (T : Mc K CM) (hC : Cls K C) (hN : Cls K CN) (mgN : mg "Single" = some (.ref CN)) (EP : Pf P w K mg base 1 C "prime" ["self"] (getSp C "_prime")) (DI : Df P w K mg base 1 "_is_pair" ["value"] spIpr)
    (KN : Kdn P w K mg base 4 CN ["self", "turner", "counts", "back"] (spNi CN)) (EH : Mf P w K mg base 7 CN "holds" ["self"] (spHoS C CN)) (DT : Df P w K mg base 5 "turn_total" ["turner", "counts"] (spTT C)) : FnOk P w K mg base CX0 9 f fd ["self"] (spMh C CM) := by
  refine F.ok scMh (fun vs H Q E h => ?_) (fun cdv A outer s H vs Q E hr h => ?_)
  · obtain ⟨z, dz, x, y, r, p, M, N, st, su, ys, n, i, rfl, _⟩ := h
    rfl
  · obtain ⟨z, dz, x, y, r, p, M, N, st, su, ys, n, i, rfl, hz, hX, hO, hY, hV, hrL, hP, hn, hi, hT, he, k⟩ := h
    have hcl := T.cl
    obtain ⟨b1, b2, b3, b4, b5, b6, b7, b8, b9, b10, b11⟩ := B
    refine' ex_mk (PSs.nox ?d) ?_
    case d =>
      have nm := nm_of (CX := CX0) (P := P) (w := w) (K := K) (mg := mg) (base := base) (outer := outer) (H := H) (E := E) nmMh hr
      have hu := nm.room.units
      refine' pss_cons ?s1 (pss_cons ?s2 (pss_cons ?s3 (pss_cons ?s4 (pss_cons ?s5 (pss_one ?s6)))))
      case s1 =>
        refine' ps_if (PW.pt (pw_or (pt_cmpR op_ne (n_p nm hC EP (by decide) ?o1) (n_p nm hC EP (by decide) ?o2) (nomark _)) (pw_or1 ?o3))) ?z1 pss_nil
        case o1 => walk_at "pe"
        case o2 => walk_at "pe"
        case o3 => walk_at "pt"
        case z1 => walk_at "pss"
      case s2 =>
        refine' ps_if (pt_not (pt_val (n_b (x := "all") nm b8 (cr_all nm.calm) PyProof.Rows.boot_all ?g1 (pa_cons (n_lc (own := [("pair", 4)]) (g := gName 4) (NS' := [("pair", 4)]) (WS' := [("pair", 4)]) (G' := ["_is_pair"]) (N := ["self", "ones", "others", "totals", "pair", "counts"]) (scD := defScope sMh) nm rfl rfl (by decide +kernel) (by decide +kernel) (n_piL nm ?li) (fun X' nm2 => ?lg) (fun X' nm2 => n_d nm2 DI (by decide) ?e0 (pa_cons ?e1 pa_nil))) pa_nil)))) ?z2 pss_nil
        case g1 => walk_at "mem"
        case li => walk_at "pe"
        case lg => walk_at "pg"
        case e0 => walk_at "mem"
        case e1 => walk_at "pe"
        case z2 => walk_at "pss"
      case s3 =>
        refine' ps_par (i := 1) (j := 2) rfl nm.nd rfl rfl (by decide) rfl rfl (pa_cons (n_lc (own := [("pair", 4)]) (g := gName 4) (NS' := [("pair", 4)]) (WS' := [("pair", 4)]) (G' := []) (N := ["self", "ones", "others", "totals", "pair", "counts"]) (scD := defScope sMh) nm rfl rfl (by decide +kernel) (by decide +kernel) (n_piL nm ?l1) (fun X' nm2 => ?lgl1) (fun X' nm2 => n_ixT nm2 ?p1 pe_int (fun _ _ => rfl))) (pa_cons (n_lc (own := [("pair", 4)]) (g := gName 4) (NS' := [("pair", 4)]) (WS' := [("pair", 4)]) (G' := []) (N := ["self", "ones", "others", "totals", "pair", "counts"]) (scD := defScope sMh) nm rfl rfl (by decide +kernel) (by decide +kernel) (n_piL nm ?l2) (fun X' nm2 => ?lgl2) (fun X' nm2 => n_ixT nm2 ?p2 pe_int (fun _ _ => rfl))) pa_nil)) (by rfl)
        case l1 => walk_at "pe"
        case lgl1 => walk_at "pg"
        case p1 => walk_at "pe"
        case l2 => walk_at "pe"
        case lgl2 => walk_at "pg"
        case p2 => walk_at "pe"
      case s4 =>
        refine' ps_if (PW.pt (pw_or (pt_not (pt_val (n_m0 nm hN EH (by decide) (n_mkN nm mgN KN (by decide) ?g1 (pa_cons ?a1 (pa_cons ?b1 (pa_cons ?c1 pa_nil))))))) (pw_or1 (pt_not (pt_val (n_m0 nm hN EH (by decide) (n_mkN nm mgN KN (by decide) ?g2 (pa_cons ?a2 (pa_cons ?b2 (pa_cons ?c2 pa_nil)))))))))) ?z3 pss_nil
        case g1 => walk_at "mem"
        case a1 => walk_at "pe"
        case b1 => walk_at "pe"
        case c1 => walk_at "pe"
        case g2 => walk_at "mem"
        case a2 => walk_at "pe"
        case b2 => walk_at "pe"
        case c2 => walk_at "pe"
        case z3 => walk_at "pss"
      case s5 =>
        refine' n_setLc (i := 3) (own := [("counts", 5)]) (g := gName 5) (NS' := [("self", 0), ("counts", 5)]) (WS' := [("counts", 5)]) (G' := ["turn_total"]) (N := ["self", "ones", "others", "totals", "pair", "counts"]) (scD := defScope sMh) nm (by walk_at "mem") rfl rfl rfl (by decide +kernel) (by decide +kernel) ?sw (n_piL nm ?l5) (fun X' nm2 => ?lg5) (fun X' nm2 => n_d nm2 DT (by decide) ?e05 (pa_cons ?e15 (pa_cons ?e25 pa_nil)))
        case sw => exact rfl
        case l5 => walk_at "pe"
        case lg5 => walk_at "pg"
        case e05 => walk_at "mem"
        case e15 => walk_at "pe"
        case e25 => walk_at "pe"
      case s6 =>
        refine' ps_ret (pe_cmpR (op_eqD hu) ?x6 (n_lc (own := [("counts", 5)]) (g := gName 5) (NS' := [("self", 0), ("counts", 5)]) (WS' := [("counts", 5)]) (G' := ["turn_total"]) (N := ["self", "ones", "others", "totals", "pair", "counts"]) (scD := defScope sMh) nm rfl rfl (by decide +kernel) (by decide +kernel) (n_piL nm ?l6) (fun X' nm2 => ?lgl6) (fun X' nm2 => (n_d nm2 DT (by decide) ?e06 (pa_cons ?e16 (pa_cons ?e26 pa_nil))))) (nomark _))
        case x6 => walk_at "pe"
        case l6 => walk_at "pe"
        case lgl6 => walk_at "pg"
        case e06 => walk_at "mem"
        case e16 => walk_at "pe"
        case e26 => walk_at "pe"
    obtain ⟨dx, tx, xx, h1, h2, h3⟩ := id hX
    obtain ⟨dy, ty, yy, k1, k2, k3⟩ := id hY
    have hl : ys.length = n := by rw [hP.1, trailP_len]
    obtain ⟨as, bs, la, lb, hA, hB, hat⟩ := pairs_split ys _ hP
    rw [trailP_fst] at hA
    rw [trailP_snd] at hB
    refine ⟨_, rfl, z, CM, dz, _, _, rfl, hz, hcl, T.n1, rfl, x, dx, _, rfl, h1, x, dx, _, _, rfl, h1, tf_p _ _ _, ?_⟩
    refine ⟨_, rfl, z, CM, dz, _, _, rfl, hz, hcl, T.n2, rfl, y, dy, _, rfl, k1, y, dy, _, _, rfl, k1, tf_p _ _ _, ?_⟩
    refine ⟨rfl, _, rfl, ?_⟩
    rw [decide_eq_true rfl]
    refine iteF ?_
    refine ⟨_, rfl, z, CM, dz, _, _, rfl, hz, hcl, T.n3, fsM_p _ _ _ _, by show 2 ≤ sizeLine; decide, fun q hq => ?_⟩
    have s0 := same_new (o := .tup [.ty "list", .ty "tuple"]) hq
    have hq0 : (upd H q (.tup [.ty "list", .ty "tuple"])) q = some (.tup [.ty "list", .ty "tuple"]) := upd_same
    generalize upd H q (.tup [.ty "list", .ty "tuple"]) = H0 at s0 hq0 ⊢
    refine ⟨_, q, _, _, _, _, rfl, hq0, .cons (.ty "list") (.cons (.ty "tuple") .nil), ty_l (SqL.of (s0 _ _ hrL)), kitAny_cons (kit_ty (by decide +kernel : kitB "list" "list" = some true)) (fun z => nomatch z) (fun _ => rfl), _, rfl, ?_⟩
    refine iteF ?_
    refine ⟨_, rfl, z, CM, dz, _, _, rfl, s0 _ _ hz, hcl, T.n3, fsM_p _ _ _ _, r, rfl, ⟨_, SqL.of (s0 _ _ hrL)⟩, fun D0 hD0 => ?_⟩
    refine lc_seq (fs := (List.replicate n true).map V.bl) (sj_L fun H1 s1 => SqL.of (s1 _ _ (s0 _ _ hrL))) hD0 (by simp [hl]) (small1000 (by omega)) ?_ ?_ gm_name
    · intro j x' z' H1 Qk hx hz' s1 kk
      obtain ⟨t, a, b, rfl, _, _, ht⟩ := hat j x' hx
      obtain rfl : z' = .bl true := by
        rw [List.map_replicate] at hz'
        exact List.eq_of_mem_replicate (List.mem_of_getElem? hz')
      exact ⟨rfl, _, rfl, t, _, _, rfl, s1 _ _ (s0 _ _ ht), kk _ fun _ _ e => e⟩
    intro H1 s1 hD01
    have s01 := Same.trans s0 s1
    refine ⟨D0, _, rfl, SqL.of hD01, ?_⟩
    refine ⟨_, rfl, ?_⟩
    rw [show (List.replicate n true).all id = true from List.all_eq_true.mpr fun b hb => List.eq_of_mem_replicate hb]
    refine iteF ?_
    -- ones, others
    refine ⟨_, rfl, z, CM, dz, _, _, rfl, s01 _ _ hz, hcl, T.n3, fsM_p _ _ _ _, r, rfl, ⟨_, SqL.of (s01 _ _ hrL)⟩, fun D1 hD1 => ?_⟩
    refine lc_seq (fs := as) (sj_L fun H2 s2 => SqL.of (s2 _ _ (s01 _ _ hrL))) hD1 la (small1000 (by omega)) ?_ ?_ gm_name
    · intro j x' z' H2 Qk hx hz' s2 kk
      obtain ⟨t, a, b, rfl, ha, hb, ht⟩ := hat j x' hx
      rw [ha] at hz'
      obtain rfl := Option.some.inj hz'
      exact ⟨rfl, _, rfl, t, _, 0, _, rfl, rfl, SqT.of (s2 _ _ (s01 _ _ ht)), rfl, kk _ fun _ _ e => e⟩
    intro H2 s2 hD12
    have s02 := Same.trans s01 s2
    refine ⟨_, rfl, z, CM, dz, _, _, rfl, s02 _ _ hz, hcl, T.n3, fsM_p _ _ _ _, r, rfl, ⟨_, SqL.of (s02 _ _ hrL)⟩, fun D2 hD2 => ?_⟩
    refine lc_seq (fs := bs) (sj_L fun H3 s3 => SqL.of (s3 _ _ (s02 _ _ hrL))) hD2 lb (small1000 (by omega)) ?_ ?_ gm_name
    · intro j x' z' H3 Qk hx hz' s3 kk
      obtain ⟨t, a, b, rfl, ha, hb, ht⟩ := hat j x' hx
      rw [hb] at hz'
      obtain rfl := Option.some.inj hz'
      exact ⟨rfl, _, rfl, t, _, 1, _, rfl, rfl, SqT.of (s3 _ _ (s02 _ _ ht)), rfl, kk _ fun _ _ e => e⟩
    intro H3 s3 hD23
    have s03 := Same.trans s02 s3
    refine ⟨_, _, rfl, ?_⟩
    have hD13 := s3 _ _ hD12
    have hA3 := hA.same s03
    have hB3 := hB.same s03
    have hX3 := hX.same s03
    have hY3 := hY.same s03
    have hz3 := s03 _ _ hz
    clear hD01 hD12 hq0
    obtain ⟨m, rfl⟩ : ∃ m, n = m + 1 := ⟨n - 1, by omega⟩
    have hD1A := hD13
    -- A
    refine ⟨_, rfl, z, CM, dz, _, _, rfl, hz3, hcl, T.n1, rfl, _, rfl, _, rfl, z, CM, dz, _, _, rfl, hz3, hcl, T.n4, rfl, fun wA dA hwA hdA hnA => ?_⟩
    refine ⟨wA, dA, .ref x, .ref D1, (i : Int), rfl, upd_same, ?_⟩
    have sGA : Same H3 (upd (upd (upd H3 dA (.own wA)) wA (.ins CN dA [])) wA (.ins CN dA (af (.ref x)))) := same_put (same_put (same_new hdA) hwA) hwA
    refine ⟨D1, as, trail p M st (m + 1), rfl, sGA _ _ hD1A, hA3.same sGA, by omega, trail_few hO _, fun KA rA zs sA hrA0 hrA hzA => ?_⟩
    have hwkA := sA _ _ (upd_same (a := wA) (o := HO.ins CN dA (af (.ref x))) (H := upd (upd H3 dA (.own wA)) wA (.ins CN dA [])))
    refine ⟨hwkA, rfl, ?_⟩
    have neA : rA ≠ wA := fun e => by rw [e, upd_same] at hrA0; cases hrA0
    have sKA : Same H3 (upd (upd KA wA (.ins CN dA (putF "_counts" (.ref rA) (af (.ref x))))) wA (.ins CN dA (fsN (.ref x) (.ref rA) (.int (i : Int))))) := same_put (same_put (Same.trans sGA sA) hwA) hwA
    refine ⟨wA, dA, _, rfl, upd_same, rfl, ?_⟩
    refine ⟨wA, dA, x, rA, p, M, st, zs, trail p M st (m + 1), i, itC p M st m, rfl, upd_same, hX3.same sKA, hO, by rw [upd_ne neA, upd_ne neA]; exact hrA, (hzA.ins hwkA).ins upd_same, by rw [hzA.1, trail_len]; omega, trail_few hO _, trail_B hO m, fun cs hcs => ?_, by rw [trail_len]; exact trail_at (Nat.lt_succ_self m), by rw [trail_at hi, (Prod.mk.inj he).1]; rfl, fun H4 tA => ?_⟩
    · unfold trail at hcs
      obtain ⟨j, hj, rfl⟩ := List.mem_map.mp hcs
      exact (hT j (List.mem_range.mp hj)).1
    refine ⟨_, rfl, ?_⟩
    refine iteF ?_
    have uA := Same.trans sKA tA
    have hD2B := uA _ _ hD23
    -- B
    refine ⟨_, rfl, z, CM, dz, _, _, rfl, (uA _ _ hz3), hcl, T.n2, rfl, _, rfl, _, rfl, z, CM, dz, _, _, rfl, (uA _ _ hz3), hcl, T.n4, rfl, fun wB dB hwB hdB hnB => ?_⟩
    refine ⟨wB, dB, .ref y, .ref D2, (i : Int), rfl, upd_same, ?_⟩
    have sGB : Same H4 (upd (upd (upd H4 dB (.own wB)) wB (.ins CN dB [])) wB (.ins CN dB (af (.ref y)))) := same_put (same_put (same_new hdB) hwB) hwB
    refine ⟨D2, bs, trail p N su (m + 1), rfl, sGB _ _ hD2B, (hB3.same uA).same sGB, by omega, trail_few hV _, fun KB rB zs sB hrB0 hrB hzB => ?_⟩
    have hwkB := sB _ _ (upd_same (a := wB) (o := HO.ins CN dB (af (.ref y))) (H := upd (upd H4 dB (.own wB)) wB (.ins CN dB [])))
    refine ⟨hwkB, rfl, ?_⟩
    have neB : rB ≠ wB := fun e => by rw [e, upd_same] at hrB0; cases hrB0
    have sKB : Same H4 (upd (upd KB wB (.ins CN dB (putF "_counts" (.ref rB) (af (.ref y))))) wB (.ins CN dB (fsN (.ref y) (.ref rB) (.int (i : Int))))) := same_put (same_put (Same.trans sGB sB) hwB) hwB
    refine ⟨wB, dB, _, rfl, upd_same, rfl, ?_⟩
    refine ⟨wB, dB, y, rB, p, N, su, zs, trail p N su (m + 1), i, itC p N su m, rfl, upd_same, (hY3.same uA).same sKB, hV, by rw [upd_ne neB, upd_ne neB]; exact hrB, (hzB.ins hwkB).ins upd_same, by rw [hzB.1, trail_len]; omega, trail_few hV _, trail_B hV m, fun cs hcs => ?_, by rw [trail_len]; exact trail_at (Nat.lt_succ_self m), by rw [trail_at hi, (Prod.mk.inj he).2]; rfl, fun H5 tB => ?_⟩
    · unfold trail at hcs
      obtain ⟨j, hj, rfl⟩ := List.mem_map.mp hcs
      exact (hT j (List.mem_range.mp hj)).2.1
    refine ⟨_, rfl, ?_⟩
    refine iteF ?_
    have uB := Same.trans sKB tB
    have uu := Same.trans uA uB
    have hz5 := uu _ _ hz3
    have hA5 := hA3.same uu
    have hB5 := hB3.same uu
    have hX5 := hX3.same uu
    have hY5 := hY3.same uu
    have hD15 := uu _ _ hD13
    have hD25 := uu _ _ hD23
    have okA := trail_ok (trail_B hO m)
    have okB := trail_ok (trail_B hV m)
    refine ⟨_, rfl, D1, rfl, ⟨_, SqL.of hD15⟩, fun D5 hD5 => ?_⟩
    refine lc_seq (fs := ((trail p M st (m + 1)).map (totC p M)).map V.int) (sj_L fun H6 s6 => SqL.of (s6 _ _ hD15)) hD5 (by rw [List.length_map, List.length_map, trail_len]; omega) (small1000 (by omega)) ?_ ?_ gm_name
    · intro j x' z' H6 Qk hx hz' s6 kk
      have hj : j < (trail p M st (m + 1)).length := by rw [← hA5.1]; exact (List.getElem?_eq_some_iff.mp hx).1
      obtain ⟨b, rfl, hb⟩ := hA5.2 j x' _ hx (List.getElem?_eq_getElem hj)
      rw [List.getElem?_map, List.getElem?_map, List.getElem?_eq_getElem hj] at hz'
      obtain rfl := Option.some.inj hz'
      exact ⟨rfl, _, rfl, z, CM, dz, _, _, rfl, s6 _ _ hz5, hcl, T.n1, rfl, _, rfl, x, b, p, M, st, _, rfl, hX5.same s6, hO, .inl (s6 _ _ hb), okA _ (List.getElem_mem hj), kk⟩
    intro H6 s6 hD56
    refine ⟨_, rfl, _, rfl, D2, rfl, ⟨_, SqL.of (s6 _ _ hD25)⟩, fun D6 hD6 => ?_⟩
    refine lc_seq (fs := ((trail p N su (m + 1)).map (totC p N)).map V.int) (sj_L fun H7 s7 => SqL.of (s7 _ _ (s6 _ _ hD25))) hD6 (by rw [List.length_map, List.length_map, trail_len]; omega) (small1000 (by omega)) ?_ ?_ gm_name
    · intro j x' z' H7 Qk hx hz' s7 kk
      have hj : j < (trail p N su (m + 1)).length := by rw [← hB5.1]; exact (List.getElem?_eq_some_iff.mp hx).1
      obtain ⟨b, rfl, hb⟩ := hB5.2 j x' _ hx (List.getElem?_eq_getElem hj)
      rw [List.getElem?_map, List.getElem?_map, List.getElem?_eq_getElem hj] at hz'
      obtain rfl := Option.some.inj hz'
      exact ⟨rfl, _, rfl, z, CM, dz, _, _, rfl, s7 _ _ (s6 _ _ hz5), hcl, T.n2, rfl, _, rfl, y, b, p, N, su, _, rfl, (hY5.same s6).same s7, hV, .inl (s7 _ _ (s6 _ _ hb)), okB _ (List.getElem_mem hj), kk⟩
    intro H7 s7 hD67
    refine eq_li2 (s7 _ _ hD56) hD67 ?_
    rw [show (trail p M st (m + 1)).map (totC p M) = (trail p N su (m + 1)).map (totC p N) by
      unfold trail
      rw [List.map_map, List.map_map]
      exact List.map_congr_left fun j hj => (hT j (List.mem_range.mp hj)).2.2]
    rw [decide_eq_true rfl]
    exact k _ (Same.trans s03 (Same.trans uu (Same.trans s6 s7)))
end

abbrev sBt : Stmt := top 80
def spBt : Sp := fun vs H Q _ => ∃ (b l t : Addr) (p : Int) (M : Mach) (st : Int), vs = [.ref b, .ref t] ∧ Bag H b l ∧ MAt H t p M st ∧ OkT p M st ∧ ∀ H' y N, Stp b l H H' → MAt H' y p N st → OkT p N st → Q (.ref y) H'
section
variable {P : Program} {w : World} {K : PySem.W.Frag} {mg : Str → Option Value} {base : Heap} {aP : Addr} {tD : Tok} {C S : Addr} {mc u : Value}
theorem scBt : FnScope ["_law_bag_here", "_law_m", "_law_p", "_law_many", "_law_at", "_law_k", "_law_turn", "_law_goals", "_law_row"] ["_law_bag_here", "_law_m"] (defScope sBt) := ⟨rfl, rfl, rfl, by decide +kernel, rfl, by decide +kernel, by decide +kernel⟩
theorem nmBt : nmB ["_law_bag_here", "_law_m", "_law_p", "_law_many", "_law_at", "_law_k", "_law_turn", "_law_goals", "_law_row"] [("_law_bag_here", 0), ("_law_m", 1), ("_law_p", 2), ("_law_many", 3), ("_law_at", 4), ("_law_k", 5), ("_law_turn", 6), ("_law_goals", 7), ("_law_row", 8)] ["len", "_law_pull", "_law_of"] (defScope sBt) = true := by decide +kernel
theorem ok_bt {f : Addr} {fd : FuncData} (F : Fun K "_law_bent" "_law_bent" sBt f fd) (B : Bn mg) (D1 : Df P w K mg base 1 "_law_pull" ["_law_bag_here", "_law_many"] spPull) (D6 : Df P w K mg base 2 "_law_of" ["_law_bag_here", "_law_some"] spOf) : FnOk P w K mg base CX0 3 f fd ["_law_bag_here", "_law_m"] spBt := by
  refine F.ok scBt (fun vs H Q E h => ?_) (fun cdv A outer s H vs Q E hr h => ?_)
  · obtain ⟨b, l, t, p, M, st, rfl, _⟩ := h
    rfl
  · obtain ⟨b, l, t, p, M, st, rfl, hB, hA, hOk, k⟩ := h
    obtain ⟨b1, b2, b3, b4, b5, b6, b7, b8, b9, b10, b11⟩ := B
    refine' ex_mk ?d ?_
    case d =>
      have nm := nm_of (CX := CX0) (P := P) (w := w) (K := K) (mg := mg) (base := base) (outer := outer) (H := H) (E := E) nmBt hr
      refine' pss_cons (ps_par (i := 2) (j := 3) rfl nm.nd rfl rfl (by decide) rfl rfl (pa_cons ?p1 (pa_cons (n_len nm (by walk_at "as") ?g0 (pa_cons ?p2 pa_nil)) pa_nil)) (by rfl)) (pss_cons (ps_par (i := 4) (j := 5) rfl nm.nd rfl rfl (by decide) rfl rfl (pa_cons ?e1 (pa_cons ?e2 pa_nil)) (by rfl))
        (pss_cons (ps_asg (n_ixL nm ?i1 ?i2 (fun _ _ => rfl)) ?g) (pss_cons ?c6 (pss_one ?c7))))
      case p1 => walk_at "peT"
      case g0 => walk_at "mem"
      case p2 => walk_at "peT"
      case e1 => walk_at "pe"
      case e2 => walk_at "pe"
      case i1 => walk_at "peT"
      case i2 => walk_at "pe"
      case g => walk_at "pg"
      case c6 =>
        refine' ps_asg (n_d nm D6 (by decide) ?gs (pa_cons ?a1 (pa_cons (pe_lst (pa_cons (pe_tup (pa_cons ?a3 (pa_cons ?a5 pa_nil))) (pa_cons (pe_tup (pa_cons ?a4 (pa_cons (pe_op op_catA (pe_op op_catA (pe_slice sl_tupA ?q1 po_none (po_some ?q2)) ?q3) (pe_slice sl_tupA ?q4 (po_some ?q5) po_none)) pa_nil))) pa_nil))) pa_nil))) ?g
        case gs => walk_at "mem"
        case a1 => walk_at "pe"
        case a3 => walk_at "pe"
        case a5 => walk_at "pe"
        case a4 => walk_at "pe"
        case q1 => walk_at "pe"
        case q2 => walk_at "pe"
        case q3 => walk_at "pe"
        case q4 => walk_at "pe"
        case q5 => walk_at "pe"
        case g => walk_at "pg"
      case c7 =>
        refine' ps_ret (pe_tup (pa_cons ?a1 (pa_cons (pe_op op_cat (pe_op op_cat (pe_slice sl_list ?q1 po_none (po_some ?q2)) ?q3) (pe_slice sl_list ?q4 (po_some ?q5) po_none)) (pa_cons ?a2 pa_nil))))
        case a1 => walk_at "pe"
        case q1 => walk_at "peT"
        case q2 => walk_at "pe"
        case q3 => walk_at "pe"
        case q4 => walk_at "peT"
        case q5 => walk_at "pe"
        case a2 => walk_at "peT"
    obtain ⟨r, xs, ht, hr2, hM⟩ := hA
    have hP := hOk.pr
    have hO := hOk.ok
    have hp2 := hP.two
    have hx := hM.1
    have z0 := hOk.st0
    have z1 := hOk.st1
    have hle := hOk.le
    have nrb : r ≠ b := MAt.apart (t := t) hB hr2 hM
    refine ⟨_, rfl, t, _, 0, _, rfl, rfl, SqT.of ht, rfl, ?_⟩
    refine ⟨_, rfl, t, _, 1, _, rfl, rfl, SqT.of ht, rfl, r, xs, rfl, .inl (SqL.of hr2), ?_⟩
    refine ⟨_, _, rfl, ?_⟩
    refine ⟨_, rfl, _, rfl, b, l, (xs.length : Int), rfl, hB, by omega, by omega, fun H4 at' st4 a0 a1 => ?_⟩
    refine ⟨_, rfl, _, rfl, b, l, p, rfl, st4.2, by omega, by omega, fun H5 k' st5 k0 k1 => ?_⟩
    have S6 : Stp b l H H5 := st4.trans st5
    refine ⟨_, _, rfl, ?_⟩
    obtain ⟨as, gs, ea, e1, e2, emem⟩ := st_get hM a0 (by rw [hx] at a1; exact a1)
    have cM : ∀ {Hc : Hp}, Stp b l H Hc → Hc t = some (.tup [.int p, .ref r, .int st]) ∧ Hc r = some (.lst xs) ∧ StsAt Hc xs M := fun S => ⟨S.1 _ _ (hB.tup ht) ht, S.1 _ _ nrb hr2, hM.keep hB S.1⟩
    generalize hs : M.getD at'.toNat (0, []) = s at *
    have cG : ∀ {Hc : Hp}, Stp b l H Hc → Hc gs = some (.tup (s.2.map V.int)) := fun S => S.1 _ _ (hB.tup e2) e2
    refine ⟨_, rfl, t, _, 1, _, rfl, rfl, SqT.of (cM S6).1, rfl, _, rfl, r, xs, at', _, rfl, rfl, SqL.of (cM S6).2.1, ea, ?_⟩
    refine ⟨as, _, rfl, SqT.of (S6.1 _ _ (hB.tup e1) e1), rfl, _, _, rfl, _, _, rfl, rfl, ?_⟩
    obtain ⟨kn, rfl⟩ : ∃ n : Nat, k' = n := ⟨k'.toNat, by omega⟩
    obtain ⟨an, rfl⟩ : ∃ n : Nat, at' = n := ⟨at'.toNat, by omega⟩
    have sT := hO.turn s emem
    have sM := hO.many s emem
    have sG := hO.goal s emem
    refine ⟨_, rfl, _, rfl, _, rfl, b, l, p, rfl, S6.2, by omega, by omega, fun H8 d st8 d0 d1 => ?_⟩
    refine ⟨_, rfl, by show 2 ≤ sizeLine; decide, fun q2 hq2 => ?_⟩
    have S9 : Stp b l H (upd H8 q2 (.tup [.int d, .ref gs])) := (S6.trans st8).add hq2
    have eq2 : upd H8 q2 (.tup [.int d, .ref gs]) q2 = some (.tup [.int d, .ref gs]) := upd_same
    generalize upd H8 q2 (.tup [.int d, .ref gs]) = H9 at *
    refine ⟨_, rfl, _, rfl, _, rfl, _, rfl, sl_anyZ rfl (cG S9) fun r1 Ha sa hr1 => ?_⟩
    have S9a := stp_same S9.2 sa
    have Sa := S9.trans S9a
    refine ⟨_, rfl, _, rfl, b, l, (xs.length : Int), rfl, Sa.2, by omega, by omega, fun Hb e stb f0 f1 => ?_⟩
    refine ⟨by show 1 ≤ sizeLine; decide, fun q4 hq4 => ?_⟩
    have Sac : Stp b l Ha (upd Hb q4 (.tup [.int e])) := stb.add hq4
    have eq4 : upd Hb q4 (.tup [.int e]) q4 = some (.tup [.int e]) := upd_same
    generalize upd Hb q4 (.tup [.int e]) = Hc at *
    have Sc := Sa.trans Sac
    refine cat_any (Sac.1 _ _ (Sa.2.tup hr1) hr1) eq4 (by rw [List.length_take, List.length_map]; show _ + 1 ≤ 1000; omega) fun r2 Hd sd hr2' => ?_
    have Scd := stp_same Sc.2 sd
    have Sd := Sc.trans Scd
    refine ⟨_, rfl, _, rfl, _, _, rfl, rfl, _, rfl, ?_⟩
    dsimp only [tNoPart]
    refine sl_anyDZ (n := kn + 1) (by omega) (cG Sd) fun r3 He se hr3 => ?_
    have Sde := stp_same Sd.2 se
    have Se := Sd.trans Sde
    refine cat_any (se _ _ hr2') hr3 (by simp only [List.length_append, List.length_take, List.length_drop, List.length_map, List.length_cons, List.length_nil]; omega) fun r4 Hf sf hr4 => ?_
    have Sef := stp_same Se.2 sf
    have Sf := Se.trans Sef
    refine ⟨by show 2 ≤ sizeLine; decide, fun q3 hq3 => ?_⟩
    have Sfg : Same Hf (upd Hf q3 (.tup [.int s.1, .ref r4])) := same_new hq3
    have eq3 : upd Hf q3 (.tup [.int s.1, .ref r4]) q3 = some (.tup [.int s.1, .ref r4]) := upd_same
    generalize upd Hf q3 (.tup [.int s.1, .ref r4]) = Hg at *
    refine ⟨by show 2 ≤ sizeLine; decide, fun ql hql => ?_⟩
    have Sgh : Same Hg (upd Hg ql (.lst [.ref q2, .ref q3])) := same_new hql
    have eql : upd Hg ql (.lst [.ref q2, .ref q3]) ql = some (.lst [.ref q2, .ref q3]) := upd_same
    have nql : ql ≠ b := (Sf.same Sfg).2.ne hql
    generalize upd Hg ql (.lst [.ref q2, .ref q3]) = Hh at *
    have Sfh := Same.trans Sfg Sgh
    have Sh := Sf.same Sfh
    have S9h : Stp b l H9 Hh := ((((S9a.trans Sac).trans Scd).trans Sde).trans Sef).same Sfh
    have k1' : (s.2.take kn ++ [e] ++ s.2.drop (kn + 1)).length = s.2.length := by simp only [List.length_append, List.length_take, List.length_drop, List.length_cons, List.length_nil]; omega
    have e4 : Hh r4 = some (.tup ((s.2.take kn ++ [e] ++ s.2.drop (kn + 1)).map V.int)) := by
      have := Sfh _ _ hr4
      rw [this]
      simp
    refine ⟨b, l, ql, _, rfl, Sh.2, eql, nql, by show 0 < 2; decide, by show 2 ≤ 1000; decide, fun Hi j y sti hy => ?_⟩
    obtain ⟨s', qs, rfl, hS', T1, T2, T3⟩ : ∃ (s' : Int × List Int) (qs : Addr), y = .ref qs ∧ StAt Hi (.ref qs) s' ∧ (0 ≤ s'.1 ∧ s'.1 < p) ∧ (s'.2.length : Int) = p ∧ ∀ g ∈ s'.2, 0 ≤ g ∧ g < (M.length : Int) := by
      match j, hy with
      | 0, hy =>
        obtain rfl := Option.some.inj hy
        exact ⟨(d, s.2), q2, rfl, StAt.keep ⟨q2, gs, rfl, S9h.1 _ _ (S9.2.tup eq2) eq2, cG Sh⟩ Sh.2 sti.1, ⟨d0, d1⟩, sM, sG⟩
      | 1, hy =>
        obtain rfl := Option.some.inj hy
        refine ⟨(s.1, s.2.take kn ++ [e] ++ s.2.drop (kn + 1)), q3, rfl, StAt.keep ⟨q3, r4, rfl, Sgh _ _ eq3, e4⟩ Sh.2 sti.1, sT, by rw [k1']; exact sM, fun g hg => ?_⟩
        rcases List.mem_append.mp hg with hg | hg
        · rcases List.mem_append.mp hg with hg | hg
          · exact sG g (List.mem_of_mem_take hg)
          · rw [List.mem_singleton.mp hg]; exact ⟨f0, by omega⟩
        · exact sG g (List.mem_of_mem_drop hg)
      | j + 2, hy => exact absurd hy (by simp)
    have Si := Sh.trans sti
    refine ⟨_, rfl, _, rfl, t, _, 1, _, rfl, rfl, SqT.of (cM Si).1, rfl, _, rfl, _, rfl, sl_listZ rfl (cM Si).2.1 fun r5 Hj sj hr5 => ?_⟩
    refine ⟨_, rfl, by show 1 ≤ sizeLine; decide, fun q6 hq6 => ?_⟩
    have Sjk : Same Hj (upd Hj q6 (.lst [.ref qs])) := same_new hq6
    have eq6 : upd Hj q6 (.lst [.ref qs]) q6 = some (.lst [.ref qs]) := upd_same
    generalize upd Hj q6 (.lst [.ref qs]) = Hk at *
    refine cat_lst (Sjk _ _ hr5) eq6 (by rw [List.length_take]; show _ + 1 ≤ 1000; omega) fun r7 Hl sl hr70 hr7 => ?_
    have Sil : Same Hi Hl := Same.trans sj (Same.trans Sjk sl)
    have Sl := Si.same Sil
    refine ⟨_, rfl, t, _, 1, _, rfl, rfl, SqT.of (cM Sl).1, rfl, _, rfl, _, _, rfl, rfl, _, rfl, ?_⟩
    dsimp only [tNoPart]
    refine sl_listDZ (n := an + 1) (by omega) (cM Sl).2.1 fun r8 Hm sm hr8 => ?_
    refine cat_lst (sm _ _ hr7) hr8 (by simp only [List.length_append, List.length_take, List.length_drop, List.length_cons, List.length_nil]; omega) fun r9 Hn sn hr90 hr9 => ?_
    have Sin : Same Hi Hn := Same.trans Sil (Same.trans sm sn)
    have Sn := Si.same Sin
    have hN : StsAt Hn (xs.take an ++ [.ref qs] ++ xs.drop (an + 1)) (M.take an ++ [s'] ++ M.drop (an + 1)) := (((cM Sn).2.2.take an).app (StsAt.one (hS'.same Sin))).app ((cM Sn).2.2.drop (an + 1))
    have lN : (M.take an ++ [s'] ++ M.drop (an + 1)).length = M.length := by simp only [List.length_append, List.length_take, List.length_drop, List.length_cons, List.length_nil]; omega
    have hON : OkM p ((M.take an ++ [s'] ++ M.drop (an + 1)).length : Int) (M.take an ++ [s'] ++ M.drop (an + 1)) := by rw [lN]; exact hO.swap an T1 T2 T3
    generalize eN : M.take an ++ [s'] ++ M.drop (an + 1) = N at *
    refine ⟨_, rfl, t, _, 2, _, rfl, rfl, SqT.of (cM Sn).1, rfl, by show 3 ≤ sizeLine; decide, fun tn htn => ?_⟩
    have t3 : Same Hn (upd Hn tn (.tup [.int p, .ref r9, .int st])) := same_new htn
    exact k _ tn N (Sn.same t3) ⟨r9, _, upd_same, t3 _ _ hr9, hN.same t3⟩ ⟨hP, hON, z0, by omega, by omega⟩
end

theorem ints_at2 {ds : List Int} {j : Nat} {x : V} (h : (ds.map V.int)[j]? = some x) : ∃ d, ds[j]? = some d ∧ x = V.int d := by
  rw [List.getElem?_map] at h
  obtain ⟨d, h1, h2⟩ := Option.map_eq_some_iff.mp h
  exact ⟨d, h1, h2.symm⟩

abbrev sMxd : Stmt := top 65
def spMxd : Sp := fun vs H Q _ => ∃ (b l s : Addr) (ks : List Int), vs = [.ref b, .ref s] ∧ Bag H b l ∧ H s = some (.lst (ks.map V.int)) ∧ s ≠ b ∧ ks.length ≤ 900 ∧
  ∀ H' r (js : List Int), Stp b l H H' → H r = none → H' r = some (.lst (js.map V.int)) → js.Perm ks → Q (.ref r) H'
theorem map_er : ∀ (l : List Int) (k : Nat), (l.map V.int).eraseIdx k = (l.eraseIdx k).map V.int
  | [], _ => rfl
  | _ :: _, 0 => rfl
  | a :: r, k + 1 => by
    show V.int a :: (r.map V.int).eraseIdx k = V.int a :: (r.eraseIdx k).map V.int
    rw [map_er r k]
theorem perm_er : ∀ (l : List Int) (k : Nat) (h : k < l.length), (l[k]'h :: l.eraseIdx k).Perm l
  | [], _, h => absurd h (Nat.not_lt_zero _)
  | a :: r, 0, _ => List.Perm.refl _
  | a :: r, k + 1, h => by
    show (r[k]'(Nat.lt_of_succ_lt_succ h) :: a :: r.eraseIdx k).Perm (a :: r)
    exact (List.Perm.swap a _ _).trans ((perm_er r k (Nat.lt_of_succ_lt_succ h)).cons a)
section
variable {P : Program} {w : World} {K : PySem.W.Frag} {mg : Str → Option Value} {base : Heap}
theorem scMxd : FnScope ["_law_bag_here", "_law_some", "_law_left", "_law_found"] ["_law_bag_here", "_law_some"] (defScope sMxd) := ⟨rfl, rfl, rfl, by decide +kernel, rfl, by decide +kernel, by decide +kernel⟩
theorem nmMxd : nmB ["_law_bag_here", "_law_some", "_law_left", "_law_found"] [("_law_bag_here", 0), ("_law_some", 1), ("_law_left", 2), ("_law_found", 3)] ["list", "_law_pull", "len"] (defScope sMxd) = true := by decide +kernel
theorem ok_mxd {f : Addr} {fd : FuncData} (F : Fun K "_law_mixed" "_law_mixed" sMxd f fd) (B : Bn mg) (D : Df P w K mg base 1 "_law_pull" ["_law_bag_here", "_law_many"] spPull) : FnOk P w K mg base CX0 2 f fd ["_law_bag_here", "_law_some"] spMxd := by
  refine F.ok scMxd (fun vs H Q E h => ?_) (fun cdv A outer s H vs Q E hr h => ?_)
  · obtain ⟨b, l, a, ks, rfl, _⟩ := h
    rfl
  · obtain ⟨b, l, a, ks, rfl, hB, ha, nab, hks, kk⟩ := h
    obtain ⟨b1, b2, b3, b4, b5, b6, b7, b8, b9, b10, b11⟩ := B
    refine' ex_mk ?d ?_
    case d =>
      have nm := nm_of (CX := CX0) (P := P) (w := w) (K := K) (mg := mg) (base := base) (outer := outer) (H := H) (E := E) nmMxd hr
      have hu := nm.room.units
      have hun := nm.room.un
      refine' pss_cons (ps_par (i := 2) (j := 3) rfl nm.nd rfl rfl (by decide) rfl rfl (pa_cons ?e1 (pa_cons (pe_lst pa_nil) pa_nil)) (by rfl))
        (pss_cons (ps_while PassesOwn.never (pt_cmpR (op_neD hu) ?w1 (pe_lst pa_nil) (nomark _)) (pss_one (ps_expr (pe_bm PySem.F.plainAttrs_list PySem.F.slot_list_append PySem.F.type_list_append mt_append ?r1 (pa_cons (pe_bm PySem.F.plainAttrs_list PySem.F.slot_list_pop PySem.F.type_list_pop mt_popAt ?r2 (pa_cons ?r3 pa_nil)) pa_nil))))) (pss_one ?ret))
      case e1 => walk_at "pe"
      case w1 => walk_at "pe"
      case r1 => walk_at "pe"
      case r2 => walk_at "pe"
      case r3 => walk_at "pe"
      case ret => walk_at "ps"
    refine ⟨_, rfl, a, _, rfl, .inl (SqL.of ha), fun ql hql => ⟨by show 0 ≤ sizeLine; decide, fun qf hqf => ⟨_, _, rfl, ?_⟩⟩⟩
    have s1 := same_new (o := .lst (ks.map V.int)) hql
    have s2 := same_new (o := .lst []) hqf
    have nlf : ql ≠ qf := ne_of_none upd_same hqf
    have hqfH : H qf = none := Same.free s1 hqf
    have s12 := Same.trans s1 s2
    refine ⟨fun m σ H2 => ∃ (ls fs : List Int), m = ls.length ∧ σ = [some (.ref b), some (.ref a), some (.ref ql), some (.ref qf)] ∧ Stp b l H H2 ∧ H2 ql = some (.lst (ls.map V.int)) ∧ H2 qf = some (.lst (fs.map V.int)) ∧ (fs ++ ls).Perm ks,
      ⟨_, ks, [], rfl, rfl, stp_same hB s12, s2 _ _ upd_same, upd_same, List.Perm.refl _⟩, ?_⟩
    rintro m σ H2 ⟨ls, fs, rfl, rfl, st, hl2, hf2, hp⟩
    have hpl := hp.length_eq
    rw [List.length_append] at hpl
    refine ⟨_, rfl, by show 0 ≤ sizeLine; decide, fun z hz => ?_⟩
    have s3 := same_new (o := .lst []) hz
    refine ne_li3 (ds := ls) (es := []) (s3 _ _ hl2) upd_same ⟨_, rfl, ?_⟩
    generalize upd H2 z (.lst []) = H3 at s3 ⊢
    have hl3 := s3 _ _ hl2
    have hf3 := s3 _ _ hf2
    have st3 : Stp b l H H3 := st.same s3
    have nlb : ql ≠ b := hB.ne hql
    have nfb : qf ≠ b := hB.ne hqfH
    by_cases c : ls = []
    · subst c
      refine Eq.mpr (if_neg (by simp)) ?_
      rw [List.append_nil] at hp
      exact ⟨_, rfl, kk _ qf fs st3 hqfH hf3 hp⟩
    · have hlp : 0 < ls.length := List.length_pos_iff.mpr c
      refine Eq.mpr (if_pos (by simp [c])) ?_
      refine ⟨fun σ' H4 => ∃ (ls' fs' : List Int), ls'.length < ls.length ∧ σ' = [some (.ref b), some (.ref a), some (.ref ql), some (.ref qf)] ∧ Stp b l H H4 ∧ H4 ql = some (.lst (ls'.map V.int)) ∧ H4 qf = some (.lst (fs'.map V.int)) ∧ (fs' ++ ls').Perm ks,
        fun σ' H4 ⟨ls', fs', h1, h2, h3, h4, h5, h6⟩ => ⟨_, h1, ls', fs', rfl, h2, h3, h4, h5, h6⟩, ?_⟩
      refine ⟨_, rfl, .inl ⟨rfl, _, SqL.of hf3⟩, _, rfl, .inl ⟨rfl, _, SqL.of hl3⟩, _, rfl, _, rfl, ql, _, rfl, .inl (SqL.of hl3), b, l, ((ls.length : Nat) : Int), by rw [List.length_map], st3.2, by omega, by omega, fun H4 d st4 d0 d1 => ?_⟩
      have hl4 := st4.1 _ _ nlb hl3
      have hf4 := st4.1 _ _ nfb hf3
      obtain ⟨k, rfl⟩ : ∃ k : Nat, d = (k : Int) := ⟨d.toNat, by omega⟩
      have hk : k < ls.length := by omega
      refine ⟨ql, _, (k : Int), k, _, rfl, rfl, hl4, by omega, by omega, ?_, by rw [List.getElem?_map, List.getElem?_eq_getElem hk]; rfl, ?_⟩
      · unfold seqIndex?
        rw [List.length_map]
        simp only [if_neg (show ¬ ((k : Int) < 0) by omega)]
        rw [if_pos (by simp; omega), Int.toNat_natCast]
      refine ⟨qf, _, _, rfl, rfl, by rw [upd_ne nlf.symm]; exact hf4, small1000 (by rw [List.length_map]; omega), ?_⟩
      refine ⟨ls.eraseIdx k, fs ++ [ls[k]'hk], by rw [List.length_eraseIdx_of_lt hk]; omega, rfl, ⟨fun c o hc e => ?_, ?_⟩, ?_, ?_, ?_⟩
      · rw [upd_ne (ne_of_none e hqfH), upd_ne (ne_of_none e hql)]
        exact st4.1 _ _ hc (st3.1 _ _ hc e)
      · obtain ⟨q1, q2, q3, q4, ns, w1, w2, w3⟩ := st4.2
        exact ⟨q1, q2, q3, q4, ns, by rw [upd_ne nfb.symm, upd_ne nlb.symm]; exact w1, by rw [upd_ne (hB.ne2 hqfH).symm, upd_ne (hB.ne2 hql).symm]; exact w2, w3⟩
      · rw [upd_ne nlf, upd_same, map_er]
      · rw [upd_same, List.map_append]; rfl
      · rw [List.append_assoc]
        exact (List.Perm.append_left fs (perm_er ls k hk)).trans hp
end

abbrev sDb : Stmt := top 79
def spDb : Sp := fun vs H Q _ => ∃ (b l t : Addr) (p : Int) (M : Mach) (st : Int), vs = [.ref b, .ref t] ∧ Bag H b l ∧ MAt H t p M st ∧ OkT p M st ∧ M.length ≤ 100 ∧
  ∀ H' y N sd os, Stp b l H H' → MAt H' y p N sd → OkT p N sd → DbOf M st N sd os → Q (.ref y) H'
theorem db_ok {p : Int} {M N : Mach} {os : List Int} (hO : OkM p (M.length : Int) M) (hl : N.length = os.length) (hin : ∀ o ∈ os, 0 ≤ o ∧ o < (M.length : Int)) (hr : ∀ (j : Nat) s' o, N[j]? = some s' → os[j]? = some o → DbRow M os s' (M.getD o.toNat (0, []))) : OkM p (N.length : Int) N := by
  have key : ∀ s' ∈ N, ∃ s ∈ M, DbRow M os s' s := fun s' h => by
    obtain ⟨j, hj⟩ := List.getElem?_of_mem h
    have hj' := (List.getElem?_eq_some_iff.mp hj).1
    have ho : os[j]? = some (os[j]'(by omega)) := List.getElem?_eq_getElem _
    have h1 := hin _ (List.mem_of_getElem? ho)
    have hx : (os[j]'(by omega)).toNat < M.length := by omega
    refine ⟨_, ?_, hr j s' _ hj ho⟩
    rw [List.getD_eq_getElem?_getD, List.getElem?_eq_getElem hx]
    exact List.getElem_mem hx
  refine ⟨fun s' h => ?_, fun s' h => ?_, fun s' h g hg => ?_⟩
  · obtain ⟨s, hs, r⟩ := key s' h
    rw [r.turn]; exact hO.turn s hs
  · obtain ⟨s, hs, r⟩ := key s' h
    rw [r.len]; exact hO.many s hs
  · obtain ⟨s, hs, r⟩ := key s' h
    rw [hl]; exact r.inn g hg
section
variable {P : Program} {w : World} {K : PySem.W.Frag} {mg : Str → Option Value} {base : Heap}
def nDb : List Str := ["_law_bag_here", "_law_m", "_law_many", "_law_owners", "_law_rows", "_law_owner", "_law_turn", "_law_goals", "_law_k", "_law_goal"]
theorem scDb : FnScope nDb ["_law_bag_here", "_law_m"] (defScope sDb) := ⟨rfl, rfl, rfl, by decide +kernel, rfl, by decide +kernel, by decide +kernel⟩
theorem nmDb : nmB nDb [("_law_bag_here", 0), ("_law_m", 1), ("_law_many", 2), ("_law_owners", 3), ("_law_rows", 4), ("_law_owner", 5), ("_law_turn", 6), ("_law_goals", 7)] ["len", "_law_mixed", "list", "range", "tuple", "_law_of"] (defScope sDb) = true := by decide +kernel
set_option maxHeartbeats 0 in
theorem ok_db {f : Addr} {fd : FuncData} (F : Fun K "_law_doubled" "_law_doubled" sDb f fd) (B : Bn mg) (D1 : Df P w K mg base 1 "_law_pull" ["_law_bag_here", "_law_many"] spPull) (D6 : Df P w K mg base 2 "_law_of" ["_law_bag_here", "_law_some"] spOf) (DM : Df P w K mg base 2 "_law_mixed" ["_law_bag_here", "_law_some"] spMxd) : FnOk P w K mg base CX0 3 f fd ["_law_bag_here", "_law_m"] spDb := by
  refine F.ok scDb (fun vs H Q E h => ?_) (fun cdv A outer s H vs Q E hr h => ?_)
  · obtain ⟨b, l, t, p, M, st, rfl, _⟩ := h
    rfl
  · obtain ⟨b, l, t, p, M, st, rfl, hB, hA, hOk, hM100, k⟩ := h
    obtain ⟨b1, b2, b3, b4, b5, b6, b7, b8, b9, b10, b11⟩ := B
    refine' ex_mk ?d ?_
    case d =>
      have nm := nm_of (CX := CX0) (P := P) (w := w) (K := K) (mg := mg) (base := base) (outer := outer) (H := H) (E := E) nmDb hr
      refine' pss_cons ?c1 (pss_cons ?c2 (pss_cons ?c3 (pss_cons ?c4 (pss_one ?c5))))
      case c1 =>
        refine' ps_asg (n_len nm b1 ?g1 (pa_cons ?x1 pa_nil)) ?s1
        case g1 => walk_at "mem"
        case x1 => walk_at "peT"
        case s1 => walk_at "pg"
      case c2 =>
        refine' ps_asg (n_d nm DM (by decide) ?g2 (pa_cons ?x2 (pa_cons (pe_op op_cat (n_listRg nm b4 b6 ?g3 ?g4 ?x3) ?lc) pa_nil))) ?s2
        case g2 => walk_at "mem"
        case x2 => walk_at "pe"
        case g3 => walk_at "mem"
        case g4 => walk_at "mem"
        case x3 => walk_at "pe"
        case lc =>
          refine' n_lcI (own := [("_law_k", 8)]) (g := gName 8) (NS' := [("_law_bag_here", 0), ("_law_k", 8)]) (WS' := [("_law_k", 8)]) (G' := ["_law_pull"]) (N := nDb) (scD := defScope sDb) nm rfl rfl (by decide +kernel) (by decide +kernel) ?li (fun X' nm2 => ?lg) (fun X' nm2 => ?lt) (fun X' nm2 => ?le)
          case li => walk_at "pi"
          case lg => walk_at "pg"
          case lt => walk_at "pt"
          case le => walk_at "pe"
        case s2 => walk_at "pg"
      case c3 => walk_at "ps"
      case c4 =>
        refine' n_for nm PassesOwn.never ?li ?lg (pss_cons ?d1 (pss_one ?d2))
        case li => walk_at "pi"
        case lg => walk_at "pg"
        case d1 =>
          refine' ps_asg (n_ixL nm ?i1 ?i2 (fun _ _ => rfl)) ?s4
          case i1 => walk_at "peT"
          case i2 => walk_at "pe"
          case s4 => walk_at "pg"
        case d2 =>
          refine' ps_expr (pe_bm PySem.F.plainAttrs_list PySem.F.slot_list_append PySem.F.type_list_append mt_append ?m1 (pa_cons (pe_tup (pa_cons ?m2 (pa_cons (n_t (x := "tuple") nm b5 call_tuple_of PyProof.Rows.boot_tuple ?g5 (pa_cons ?lc2 pa_nil)) pa_nil))) pa_nil))
          case m1 => walk_at "pe"
          case m2 => walk_at "pe"
          case g5 => walk_at "mem"
          case lc2 =>
            refine' n_lcXC (own := [("_law_goal", 9)]) (g := gName 9) (NS' := [("_law_bag_here", 0), ("_law_owners", 3), ("_law_goal", 9)]) (WS' := [("_law_goal", 9)]) (G' := ["_law_of", "range", "len"]) (N := nDb) (scD := defScope sDb) nm rfl rfl (by decide +kernel) (by decide +kernel) (n_piT2 nm ?ti) (fun X' nm2 => ?lg) (fun X' nm2 eN eS => n_d nm2 D6 (by decide) ?q1 (pa_cons ?q2 (pa_cons ?q3 pa_nil)))
            case ti => walk_at "pe"
            case lg => walk_at "pg"
            case q1 => walk_at "mem"
            case q2 => walk_at "pe"
            case q3 =>
              refine' n_lcI (own := [("_law_k", 8)]) (g := gName 8) (NS' := [("_law_owners", 3), ("_law_goal", 9), ("_law_k", 8)]) (WS' := [("_law_k", 8)]) (G' := []) (N := nDb) nm2 eN eS (by decide +kernel) (by decide +kernel) ?li2 (fun X' nm3 => ?lg2) (fun X' nm3 => ?lt2) (fun X' nm3 => ?le2)
              case li2 => walk_at "pi"
              case lg2 => walk_at "pg"
              case lt2 => walk_at "pt"
              case le2 => walk_at "pe"
      case c5 =>
        refine' ps_ret (pe_tup (pa_cons ?r1 (pa_cons ?r2 (pa_cons (n_d nm D6 (by decide) ?g6 (pa_cons ?r3 (pa_cons ?lc3 pa_nil))) pa_nil))))
        case r1 => walk_at "peT"
        case r2 => walk_at "pe"
        case g6 => walk_at "mem"
        case r3 => walk_at "pe"
        case lc3 =>
          refine' n_lcI (own := [("_law_k", 8)]) (g := gName 8) (NS' := [("_law_m", 1), ("_law_owners", 3), ("_law_k", 8)]) (WS' := [("_law_k", 8)]) (G' := []) (N := nDb) (scD := defScope sDb) nm rfl rfl (by decide +kernel) (by decide +kernel) ?li3 (fun X' nm3 => ?lg3) (fun X' nm3 => pt_cmpR op_eq ?y1 (n_ixT nm3 ?y2 pe_int (fun _ _ => rfl)) (nomark _)) (fun X' nm3 => ?le3)
          case li3 => walk_at "pi"
          case lg3 => walk_at "pg"
          case y1 => walk_at "pe"
          case y2 => walk_at "pe"
          case le3 => walk_at "pe"
    obtain ⟨r, xs, ht, hr2, hM⟩ := id hA
    have hP := hOk.pr
    have hO := hOk.ok
    have hp2 := hP.two
    have hx := hM.1
    have z0 := hOk.st0
    have z1 := hOk.st1
    have nrb : r ≠ b := MAt.apart (t := t) hB hr2 hM
    refine ⟨_, rfl, t, _, 1, _, rfl, rfl, SqT.of ht, rfl, r, xs, rfl, .inl (SqL.of hr2), ?_⟩
    refine ⟨_, rfl, _, rfl, ((xs.length : Nat) : Int), rfl, RgOk.of_le (by decide) (by omega) (by decide) (by omega), fun q0 hq0 => ?_⟩
    rw [rgV_I]
    have s0 : Same H (upd H q0 (.lst ((rgI xs.length).map V.int))) := same_new hq0
    have e0 : upd H q0 (.lst ((rgI xs.length).map V.int)) q0 = some (.lst ((rgI xs.length).map V.int)) := upd_same
    generalize upd H q0 (.lst ((rgI xs.length).map V.int)) = H0 at s0 e0 ⊢
    have hB0 : Bag H0 b l := hB.same s0
    have nq0 : q0 ≠ b := hB.ne hq0
    refine ⟨_, rfl, ((xs.length : Nat) : Int), rfl, by omega, by omega, ?_⟩
    rw [Int.toNat_natCast]
    intro D hD
    refine lc_stepI (b := b) (l := l) (n := xs.length) hB0 hD (small1000 (by omega)) ?_ ?_ ?_
    · intro m H1 R hm s1 kk
      exact ⟨rfl, _, rfl, b, l, 2, rfl, s1.2, by decide, by decide, fun H2 d st _ _ => ⟨rfl, _, rfl, kk H2 _ st⟩⟩
    · intro m H1 Q1 hm s1 q
      exact ⟨_, rfl, by rw [Int.zero_add]; exact q⟩
    intro H2 ks s2 hD2 hkl hkm
    refine ⟨q0, D, _, _, rfl, rfl, s2.1 _ _ nq0 e0, hD2, by rw [List.length_map, List.length_map, rgI_len]; exact Nat.le_of_lt (small1000 (by omega)), fun w0 hw0 => ?_⟩
    rw [← List.map_append]
    have S2 : Stp b l H H2 := (stp_same hB s0).trans s2
    refine ⟨b, l, w0, rgI xs.length ++ ks, rfl, S2.2.new hw0, upd_same, S2.2.ne hw0, by rw [List.length_append, rgI_len]; omega, fun H3 r3 js st3 hr30 hr3 hperm => ?_⟩
    have S3 : Stp b l H H3 := (S2.add hw0).trans st3
    have nr3 : r3 ≠ b := (S2.2.new hw0).ne hr30
    have hjl : js.length ≤ 200 := by
      have := hperm.length_eq
      rw [List.length_append, rgI_len] at this
      omega
    have hjin : ∀ o ∈ js, 0 ≤ o ∧ o < (M.length : Int) := fun o ho => by
      rw [← hx]
      rcases List.mem_append.mp (hperm.mem_iff.mp ho) with h | h
      · exact mem_rgI.mp h
      · exact hkm o h
    have hjall : ∀ g : Int, 0 ≤ g → g < (M.length : Int) → ∃ m : Nat, m < js.length ∧ js[m]? = some g := fun g g0 g1 => by
      have h : g ∈ js := hperm.mem_iff.mpr (List.mem_append.mpr (.inl (mem_rgI.mpr ⟨g0, by rw [hx]; exact g1⟩)))
      obtain ⟨m, hm⟩ := List.getElem?_of_mem h
      exact ⟨m, (List.getElem?_eq_some_iff.mp hm).1, hm⟩
    have cM : ∀ {Hc : Hp}, Stp b l H Hc → Hc t = some (.tup [.int p, .ref r, .int st]) ∧ Hc r = some (.lst xs) ∧ StsAt Hc xs M := fun S => ⟨S.1 _ _ (hB.tup ht) ht, S.1 _ _ nrb hr2, hM.keep hB S.1⟩
    have jat : ∀ {m : Nat} {o : Int}, js[m]? = some o → atI (js.map V.int) (0 + (m : Int)) = some (.int o) := fun {m o} h => at_of (j := m) (by omega) (by rw [List.getElem?_map, h]; rfl)
    have filt : ∀ {g : Int} {Hx : Hp} {x8 : Addr} {Q : V → Hp → Prop}, 0 ≤ g → g < (M.length : Int) → Stp b l H Hx → Hx x8 = some (.lst ((((List.range js.length).filter fun m => decide (js[m]? = some g)).map fun x : Nat => (x : Int)).map V.int)) → x8 ≠ b → (∀ H8 (d : Int), Stp b l Hx H8 → 0 ≤ d → d < (js.length : Int) → js[d.toNat]? = some g → Q (.int d) H8) → spOf [.ref b, .ref x8] Hx Q E0 := fun {g Hx x8 Q} g0 g1 S h8 n8 q => by
      obtain ⟨m, hm, hmj⟩ := hjall g g0 g1
      have hmem : m ∈ (List.range js.length).filter fun m => decide (js[m]? = some g) := List.mem_filter.mpr ⟨List.mem_range.mpr hm, by rw [hmj]; exact decide_eq_true rfl⟩
      refine ⟨b, l, x8, _, rfl, S.2, h8, n8, ?_, ?_, fun H8 d x s8 hxx => ?_⟩
      · rw [List.length_map, List.length_map]; exact List.length_pos_of_mem hmem
      · rw [List.length_map, List.length_map]
        have := List.length_filter_le (fun m => decide (js[m]? = some g)) (List.range js.length)
        rw [List.length_range] at this
        omega
      · obtain ⟨z, hz, rfl⟩ := ints_at2 hxx
        obtain ⟨k', hk1, rfl⟩ := List.mem_map.mp (List.mem_of_getElem? hz)
        obtain ⟨hk2, hk3⟩ := List.mem_filter.mp hk1
        have hk2 := List.mem_range.mp hk2
        exact q H8 _ s8 (by omega) (by omega) (by rw [Int.toNat_natCast]; exact of_decide_eq_true hk3)
    refine ⟨Nat.zero_le _, fun rr hrr => ?_⟩
    have S4 : Stp b l H (upd H3 rr (.lst [])) := S3.add hrr
    have e4 : upd H3 rr (.lst []) rr = some (.lst []) := upd_same
    have h34 : Same H3 (upd H3 rr (.lst [])) := same_new hrr
    have hrr0 : H3 rr = none := hrr
    have nrr : rr ≠ b := S3.2.ne hrr
    generalize upd H3 rr (.lst []) = H4 at S4 e4 h34 ⊢
    have hr4 := h34 _ _ hr3
    have hrrH : H rr = none := S3.free hrr0
    try dsimp (config := { proj := false }) only [gName, List.set_cons_succ, List.set_cons_zero]
    refine ⟨_, rfl, r3, rfl, ⟨_, SqL.of hr4⟩, for_list (K := K) (a := r3) (xs := js.map V.int) (fun i σ H' => ∃ (v5 v6 v7 v8 v9 : Option V) (ys : List V) (N : Mach), σ = [some (.ref b), some (.ref t), some (.int ((xs.length : Nat) : Int)), some (.ref r3), some (.ref rr), v5, v6, v7, v8, v9] ∧ Stp b l H3 H' ∧ H' rr = some (.lst ys) ∧ StsAt H' ys N ∧ N.length = i ∧ ∀ (j : Nat) s' o, N[j]? = some s' → js[j]? = some o → DbRow M js s' (M.getD o.toNat (0, [])))
      ⟨none, none, none, none, none, [], [], rfl, stp_same S3.2 h34, e4, ⟨rfl, fun i x s h => by simp at h⟩, rfl, fun j s' o h => by simp at h⟩ (fun i σ H' _ ⟨_, _, _, _, _, _, _, _, s, _⟩ => SqL.of (s.1 _ _ nr3 hr3)) ?_ ?_⟩
    · rintro i x σ H' hxi ⟨v5, v6, v7, v8, v9, ys, N, rfl, sH, hrr', hN, hNl, hrow⟩
      obtain ⟨o, ho, rfl⟩ := ints_at2 hxi
      have hi : i < js.length := (List.getElem?_eq_some_iff.mp ho).1
      obtain ⟨o0, o1⟩ := hjin o (List.mem_of_getElem? ho)
      have S5 : Stp b l H H' := S3.trans sH
      obtain ⟨as, gs, ea, e1, e2, emem⟩ := st_get (cM S5).2.2 o0 o1
      have sT := hO.turn _ emem
      have sM := hO.many _ emem
      have sG := hO.goal _ emem
      refine ⟨_, rfl, t, _, 1, _, rfl, rfl, SqT.of (cM S5).1, rfl, _, rfl, r, xs, o, _, rfl, rfl, SqL.of (cM S5).2.1, ea, ?_⟩
      refine ⟨as, _, rfl, SqT.of e1, rfl, _, _, rfl, _, _, rfl, rfl, ?_⟩
      generalize es : M.getD o.toNat (0, []) = s at e1 e2 emem sT sM sG
      try dsimp (config := { proj := false }) only [gName, List.set_cons_succ, List.set_cons_zero]
      refine ⟨_, rfl, .inl ⟨rfl, _, SqL.of hrr'⟩, _, rfl, _, rfl, gs, rfl, ⟨_, SqT.of e2⟩, fun D2 hD2 => ?_⟩
      have hB5 := S5.2
      refine lc_stepS (b := b) (l := l) (xs := s.2.map V.int) (R := fun c d => 0 ≤ d ∧ d < (js.length : Int) ∧ ∀ g, s.2[c]? = some g → js[d.toNat]? = some g) hB5 (sj_T (K := K) fun H6 s6 => SqT.of (s6.1 _ _ (hB5.tup e2) e2)) hD2 (by rw [List.length_map]; exact small1000 (by omega)) ?_ ?_ gm_name
      · intro c x H6 Qk hxc s6 kk
        obtain ⟨g, hg, rfl⟩ := ints_at2 hxc
        obtain ⟨g0, g1⟩ := sG g (List.mem_of_getElem? hg)
        have S6 : Stp b l H H6 := S5.trans s6
        have hr6 : H6 r3 = some (.lst (js.map V.int)) := s6.1 _ _ nr3 (sH.1 _ _ nr3 hr3)
        refine ⟨rfl, _, rfl, _, rfl, r3, _, rfl, .inl (SqL.of hr6), ((js.length : Nat) : Int), by rw [List.length_map], by omega, by omega, ?_⟩
        rw [Int.toNat_natCast]
        intro D3 hD3
        refine lc_filt (pr := fun m => decide (js[m]? = some g)) hD3 (small1000 (by omega)) ?_ ?_ ?_
        · intro m H7 R hm s7 k7
          have hjm : js[m]? = some (js[m]'hm) := List.getElem?_eq_getElem hm
          refine ⟨rfl, _, rfl, _, rfl, r3, _, _, _, rfl, rfl, SqL.of (s7 _ _ hr6), jat hjm, _, rfl, rfl, _, rfl, ?_⟩
          rw [show decide (V.int (js[m]'hm) = V.int g) = decide (js[m]? = some g) from decide_eq_decide.mpr ⟨fun z => by rw [hjm, V.int.inj z], fun z => by rw [hjm] at z; rw [Option.some.inj z]⟩]
          exact k7 _ (fun _ _ e => e)
        · intro m H7 Q7 hm s7 q
          exact ⟨_, rfl, by rw [Int.zero_add]; exact q⟩
        · intro H7 s7 hD7
          refine filt g0 g1 (S6.same s7) hD7 (S6.2.ne hD3) fun H8 d s8 d0 d1 hd => ?_
          exact kk H8 d ((stp_same S6.2 s7).trans s8) ⟨d0, d1, fun g' hg' => by rw [hg] at hg'; rw [hd, hg']⟩
      · intro H6 ds s6 hD6 hdl hdR
        rw [List.length_map] at hdl
        refine ⟨D2, _, rfl, .inl ⟨SqL.of hD6, fun tt htt => ?_⟩⟩
        refine ⟨by show 2 ≤ sizeLine; decide, fun q hq => ?_⟩
        have s67 : Same H6 (upd (upd H6 tt (.tup (ds.map V.int))) q (.tup [.int s.1, .ref tt])) := same_add (same_new htt) hq
        have e7 : upd (upd H6 tt (.tup (ds.map V.int))) q (.tup [.int s.1, .ref tt]) q = some (.tup [.int s.1, .ref tt]) := upd_same
        have e8 : upd (upd H6 tt (.tup (ds.map V.int))) q (.tup [.int s.1, .ref tt]) tt = some (.tup (ds.map V.int)) := (same_new hq) _ _ upd_same
        generalize upd (upd H6 tt (.tup (ds.map V.int))) q (.tup [.int s.1, .ref tt]) = H7 at s67 e7 e8 ⊢
        have s7 : Stp b l H' H7 := s6.same s67
        have hr7 : H7 rr = some (.lst ys) := s7.1 _ _ nrr hrr'
        refine ⟨rr, _, _, rfl, rfl, hr7, by rw [hN.1, hNl]; exact small1000 (by omega), ?_⟩
        have hS7 : StAt H7 (.ref q) (s.1, ds) := ⟨q, tt, rfl, e7, e8⟩
        have hN7 : StsAt H7 ys N := hN.keep S5.2 s7.1
        have hrw : DbRow M js (s.1, ds) s := ⟨rfl, hdl, fun g hg => by
          obtain ⟨c, hc⟩ := List.getElem?_of_mem hg
          have := hdR c g hc
          exact ⟨this.1, this.2.1⟩, fun c g g' h1 h2 => (hdR c g' h1).2.2 g h2⟩
        refine ⟨_, _, _, _, _, ys ++ [.ref q], N ++ [(s.1, ds)], rfl, (sH.trans s7).put S3.2 hrr0, upd_same, (hN7.snoc hS7).lst hr7, by rw [List.length_append, hNl]; rfl, fun j s' o' h1 h2 => ?_⟩
        by_cases cj : j < N.length
        · rw [List.getElem?_append_left cj] at h1
          exact hrow j s' o' h1 h2
        · rw [List.getElem?_append_right (by omega)] at h1
          have ej : j - N.length = 0 := by
            rcases Nat.eq_zero_or_pos (j - N.length) with e | e
            · exact e
            · rw [List.getElem?_eq_none (by simp; omega)] at h1; cases h1
          rw [ej] at h1
          obtain rfl := Option.some.inj h1
          have : j = i := by omega
          subst this
          rw [ho] at h2
          obtain rfl := Option.some.inj h2
          rw [es]; exact hrw
    · rintro σ H' ⟨v5, v6, v7, v8, v9, ys, N, rfl, sH, hrr', hN, hNl, hrow⟩
      rw [List.length_map] at hNl
      have S5 : Stp b l H H' := S3.trans sH
      have hr6 : H' r3 = some (.lst (js.map V.int)) := sH.1 _ _ nr3 hr3
      refine ⟨_, rfl, t, _, 0, _, rfl, rfl, SqT.of (cM S5).1, rfl, _, rfl, _, rfl, _, rfl, r3, _, rfl, .inl (SqL.of hr6), ((js.length : Nat) : Int), by rw [List.length_map], by omega, by omega, ?_⟩
      rw [Int.toNat_natCast]
      intro D3 hD3
      refine lc_filt (pr := fun m => decide (js[m]? = some st)) hD3 (small1000 (by omega)) ?_ ?_ ?_
      · intro m H7 R hm s7 k7
        have hjm : js[m]? = some (js[m]'hm) := List.getElem?_eq_getElem hm
        refine ⟨rfl, _, rfl, _, rfl, r3, _, _, _, rfl, rfl, SqL.of (s7 _ _ hr6), jat hjm, _, rfl, t, _, 2, _, rfl, rfl, SqT.of (cM (S5.same s7)).1, rfl, rfl, _, rfl, ?_⟩
        rw [show decide (V.int (js[m]'hm) = V.int st) = decide (js[m]? = some st) from decide_eq_decide.mpr ⟨fun z => by rw [hjm, V.int.inj z], fun z => by rw [hjm] at z; rw [Option.some.inj z]⟩]
        exact k7 _ (fun _ _ e => e)
      · intro m H7 Q7 hm s7 q
        exact ⟨_, rfl, by rw [Int.zero_add]; exact q⟩
      · intro H7 s7 hD7
        refine filt z0 z1 (S5.same s7) hD7 (S5.2.ne hD3) fun H8 d s8 d0 d1 hd => ?_
        refine ⟨by show 3 ≤ sizeLine; decide, fun y hy => ?_⟩
        have s58 : Stp b l H' H8 := (stp_same S5.2 s7).trans s8
        have S8 : Stp b l H H8 := S5.trans s58
        have hNlen : N.length = js.length := hNl
        refine k _ y N d js (S8.add hy) ⟨rr, ys, upd_same, (same_new hy) _ _ (s58.1 _ _ nrr hrr'), (hN.keep S5.2 s58.1).same (same_new hy)⟩ ⟨hP, db_ok hO hNlen hjin hrow, d0, by omega, by omega⟩ ⟨hNlen, hjin, hrow, d0, hd⟩
end

abbrev sLaw : Stmt := top 82
def spLawT (K : PySem.W.Frag) (PL : Addr) : Sp := fun vs H Q _ => ∃ (a : Addr) (ns : List Int), vs = [.ref a] ∧ SqL K H a (ns.map V.int) ∧ ns.length ≤ 63 ∧ H PL = some (.tbl #[]) ∧ ∀ H', Q (.bl true) H'
def nLaw : List Str := ["_law_script", "_law_bag_here", "_law_turn_z", "_law_p", "_law_m", "_law_n", "_law_due", "_law_rows", "_law_sums", "_law_late", "_law_told"]
abbrev gLaw : List Str := ["_law_bag", "range", "_law_prime", "_law_of", "_law_single", "_law_plain", "_law_undone", "_law_doubled", "_law_bent", "_law_first", "len", "_law_sum", "_law_later", "_law_got", "_law_same", "match", "_law_made"]
/-- match called by keywords, the other one first, the bound left out -/
def gSwMp {α : Type} (us mv ws : List α) : List α := match ws with
  | [b, a] => [a, b] ++ mv
  | _ => []
def gSwM (us zs : List V) : List V := gSwMp us [.int 2000] zs
/-- match where the pairs come again -/
def spMtG (C CM : Addr) : Sp := fun vs H Q _ => ∃ (x y : Addr) (p : Int) (M N : Mach) (st su : Int) (n i : Nat), vs = [.ref x, .ref y, .int 2000] ∧ TurAt C H x p M st ∧ OkT p M st ∧ TurAt C H y p N su ∧ OkT p N su ∧ n ≤ 2000 ∧ (∀ j, j < n → NewP p M st N su j ∧ TotP p M st N su j) ∧
  i < n ∧ pairN p M st N su i = pairN p M st N su n ∧ (∀ k, k < i → pairN p M st N su k ≠ pairN p M st N su n) ∧ ∀ H' z, Same H H' → H z = none → MatAt CM H' z (.ref x) (.ref y) (trailP p M st N su n) (i : Int) → Q (.ref z) H'
theorem mt_good {P : Program} {w : World} {K : PySem.W.Frag} {mg : Str → Option Value} {base : Heap} {C CPD CIC CTM CN CR CM : Addr} {f : Addr} {fd : FuncData} (F : FnOk P w K mg base (L2.CX P w) 13 f fd ["one", "other", "most"] (spMt K C CPD CIC CTM CN CR CM)) : FnOk P w K mg base CX0 13 f fd ["one", "other", "most"] (spMtG C CM) :=
  fn_from F fun vs H Q E ⟨x, y, p, M, N, st, su, n, i, e, hT, hO, hU, hV, hn, hgo, hi, he, hb, k⟩ => ⟨x, y, p, p, M, N, st, su, .int 2000, e, hT, hO, hU, hV, .inr (.inr ⟨rfl, 2000, n, rfl, by decide, by decide, hn, hgo, .back i hi he hb k⟩)⟩
section
variable {P : Program} {w : World} {K : PySem.W.Frag} {mg : Str → Option Value} {base : Heap} {C CPD CIC CTM CN CR CM C1 C2 C3 : Addr} {c PL : Addr} {mc u : Value}
theorem scLaw : FnScope nLaw ["_law_script"] (defScope sLaw) := ⟨rfl, rfl, rfl, by decide +kernel, rfl, by decide +kernel, by decide +kernel⟩
theorem nmLaw : nmB nLaw [("_law_script", 0), ("_law_bag_here", 1), ("_law_turn_z", 2), ("_law_p", 3), ("_law_m", 4), ("_law_n", 5), ("_law_due", 6), ("_law_rows", 7), ("_law_sums", 8), ("_law_late", 9), ("_law_told", 10)] gLaw (defScope sLaw) = true := by decide +kernel
set_option maxHeartbeats 0
def rdLaw {A : Around} {outer : List Env} {s : Shared} {H : Hp} {E : XK} {f : Addr}
    (nm : Nm P w K mg base 23 (cxOf CX0 P w K mg base nLaw "law" (defScope sLaw) f (.ref c) A outer s H E).nox [("_law_script", 0), ("_law_bag_here", 1), ("_law_turn_z", 2), ("_law_p", 3), ("_law_m", 4), ("_law_n", 5), ("_law_due", 6), ("_law_rows", 7), ("_law_sums", 8), ("_law_late", 9), ("_law_told", 10)] [("_law_script", 0), ("_law_bag_here", 1), ("_law_turn_z", 2), ("_law_p", 3), ("_law_m", 4), ("_law_n", 5), ("_law_due", 6), ("_law_rows", 7), ("_law_sums", 8), ("_law_late", 9), ("_law_told", 10)] gLaw)
    (TB : LamX.TabB base mg c PL) (b1 : mg "len" = none) (br : mg "range" = none) (hM : Cls K CM)
    (D1 : Df P w K mg base 1 "_law_bag" ["_law_script"] (spBag K)) (D2 : Df P w K mg base 3 "_law_prime" ["_law_bag_here"] spPrime) (DO : Df P w K mg base 2 "_law_of" ["_law_bag_here", "_law_some"] spOf) (DS : Df P w K mg base 4 "_law_single" ["_law_bag_here", "_law_p"] spSgL) (DP : Df P w K mg base 3 "_law_plain" ["_law_bag_here", "_law_p", "_law_top"] spPlain)
    (DU : Df P w K mg base 1 "_law_undone" ["_law_m"] spLUnd) (DD : Df P w K mg base 3 "_law_doubled" ["_law_bag_here", "_law_m"] spDb) (DB : Df P w K mg base 3 "_law_bent" ["_law_bag_here", "_law_m"] spBt)
    (DF : Df P w K mg base 1 "_law_first" ["_law_m"] spLF) (DL : Df P w K mg base 1 "_law_later" ["_law_m", "_law_row"] spLL) (DT : Df P w K mg base 1 "_law_sum" ["_law_m", "_law_row"] spLS)
    (DM : Df P w K mg base 7 "_law_made" ["_law_m"] (spMade C)) (D8 : Df P w K mg base 12 "_law_same" ["_law_found", "_law_due"] (spS K 12)) (DG : Df P w K mg base 21 "_law_got" ["_law_ask"] (spGot P w K mg base [.ref C1, .ref C2, .ref C3]))
    (GM : DfK P w K mg base 13 "match" ["one", "other", "most"] ["other", "one"] gSwM (spMtG C CM)) (EH : Mf P w K mg base 9 CM "holds" ["self"] (spMh C CM)) : {tb : TS // PSs (cxOf CX0 P w K mg base nLaw "law" (defScope sLaw) f (.ref c) A outer s H E).nox (defBody sLaw) tb} := by
  refine ⟨?tb, ?d⟩
  case d =>
    have hu := nm.room.units
    have hun := nm.room.un
    refine' pss_cons ?s1 (pss_cons (n_for nm PassesOwn.never ?fi ?fg ?body) (pss_one ?s3))
    case s1 => walk_at "ps"
    case fi => walk_at "pi"
    case fg => walk_at "pg"
    case s3 => walk_at "ps"
    case body =>
      refine' pss_cons ?c1 (pss_cons ?c2 (pss_cons ?c3 (pss_cons ?c4 (pss_cons (ps_while PassesOwn.never ?wt (pss_cons ?w1 (pss_cons ?w2 (pss_cons ?w3 (pss_one ?w4))))) (pss_cons ?c6 (pss_cons ?c7 (pss_one ?c8)))))))
      case c1 => walk_at "ps"
      case c2 => walk_at "ps"
      case c3 => walk_at "ps"
      case c4 =>
        refine' ps_par (i := 6) (j := 7) rfl nm.nd rfl rfl (by decide) rfl rfl (pa_cons pe_non (pa_cons (pe_lst (pa_cons (pe_tup (pa_cons ?e1 (pa_cons ?e2 pa_nil))) pa_nil)) pa_nil)) (by rfl)
        case e1 => walk_at "pe"
        case e2 => walk_at "pe"
      case wt =>
        refine' PW.pt (pw_and ?t1 (pw_and1 ?t2))
        case t1 => walk_at "pt"
        case t2 => walk_at "pt"
      case w1 =>
        refine' ps_asg (pe_tup (pa_cons (n_d nm DT (by decide) ?g1 (pa_cons ?m1 (pa_cons (n_ixT nm (n_ixL nm ?r1 (pe_un un_neg pe_int) (fun _ _ => rfl)) pe_int (fun _ _ => rfl)) pa_nil))) (pa_cons (n_d nm DT (by decide) ?g2 (pa_cons ?m2 (pa_cons (n_ixT nm (n_ixL nm ?r2 (pe_un un_neg pe_int) (fun _ _ => rfl)) pe_int (fun _ _ => rfl)) pa_nil))) pa_nil))) ?gg
        case g1 => walk_at "mem"
        case m1 => walk_at "pe"
        case r1 => walk_at "pe"
        case g2 => walk_at "mem"
        case m2 => walk_at "pe"
        case r2 => walk_at "pe"
        case gg => walk_at "pg"
      case w2 =>
        refine' ps_asg (pe_tup (pa_cons (n_d nm DL (by decide) ?g1 (pa_cons ?m1 (pa_cons (n_ixT nm (n_ixL nm ?r1 (pe_un un_neg pe_int) (fun _ _ => rfl)) pe_int (fun _ _ => rfl)) pa_nil))) (pa_cons (n_d nm DL (by decide) ?g2 (pa_cons ?m2 (pa_cons (n_ixT nm (n_ixL nm ?r2 (pe_un un_neg pe_int) (fun _ _ => rfl)) pe_int (fun _ _ => rfl)) pa_nil))) pa_nil))) ?gg
        case g1 => walk_at "mem"
        case m1 => walk_at "pe"
        case r1 => walk_at "pe"
        case g2 => walk_at "mem"
        case m2 => walk_at "pe"
        case r2 => walk_at "pe"
        case gg => walk_at "pg"
      case w3 =>
        refine' ps_if (pt_cmpR op_in_seq pe_int ?x1 (by with_unfolding_all rfl)) (pss_one (ps_asg (pe_tup (pa_cons pe_str (pa_cons (pe_tup pa_nil) pa_nil))) ?y1))
          (pss_one (ps_if (pt_cmpR op_ne (n_ixT nm ?x2 pe_int (fun _ _ => rfl)) (n_ixT nm ?x3 pe_int (fun _ _ => rfl)) (nomark _)) (pss_one (ps_asg (pe_tup (pa_cons pe_str (pa_cons (pe_tup (pa_cons (n_len nm b1 ?g4 (pa_cons ?x4 pa_nil)) pa_nil)) pa_nil))) ?y2))
          (pss_one (ps_if (pt_cmpR (op_inD (by omega)) ?x5 ?x6 (by with_unfolding_all rfl)) (pss_one (ps_asg (pe_tup (pa_cons pe_str (pa_cons (pe_tup (pa_cons ?x7 (pa_cons (pe_bm PySem.F.plainAttrs_list PySem.F.slot_list_index PySem.F.type_list_index (mt_indexD (by omega)) ?x8 (pa_cons ?x9 pa_nil)) pa_nil))) pa_nil))) ?y3)) pss_nil))))
        case x1 => walk_at "pe"
        case y1 => walk_at "pg"
        case x2 => walk_at "pe"
        case x3 => walk_at "pe"
        case g4 => walk_at "mem"
        case x4 => walk_at "pe"
        case y2 => walk_at "pg"
        case x5 => walk_at "pe"
        case x6 => walk_at "pe"
        case x7 => walk_at "pe"
        case x8 => walk_at "pe"
        case x9 => walk_at "pe"
        case y3 => walk_at "pg"
      case w4 =>
        refine' ps_asg (pe_ifExp ?t1 (pe_op op_cat ?a1 (pe_lst (pa_cons ?a2 pa_nil))) ?a3) ?gg
        case t1 => walk_at "pt"
        case a1 => walk_at "pe"
        case a2 => walk_at "pe"
        case a3 => walk_at "pe"
        case gg => walk_at "pg"
      case c6 =>
        refine' ps_asg (n_dL nm DG (by decide) ?g2 (pa_cons (pe_lamb (T := [(PL, nmWL)]) (nm := nmWL) TB rfl (List.mem_singleton.mpr rfl) rfl (fun p hp _ => by rw [List.mem_singleton.mp hp]) (NdefX.ndef_free (fr := ["_law_m", "_law_n"]) (sc := defScope sLaw) (by decide +kernel)) rfl) pa_nil) (fun _ => rfl) (uniq_frame (by decide +kernel))) ?gg
        case g2 => walk_at "mem"
        case gg => walk_at "pg"
      case c7 =>
        refine' ps_if (PW.pt (pw_and ?t1 (pw_and1 (pt_not (pt_val (n_d nm D8 (by decide) ?g1 (pa_cons ?a1 (pa_cons ?a2 pa_nil)))))))) ?z pss_nil
        case t1 => walk_at "pt"
        case g1 => walk_at "mem"
        case a1 => walk_at "pe"
        case a2 => walk_at "pe"
        case z => walk_at "pss"
      case c8 =>
        refine' ps_if (PW.pt (pw_and ?t1 (pw_and (pt_cmpR op_eq (n_ixT nm ?x1 pe_int (fun _ _ => rfl)) pe_str (nomark _)) (pw_and1 (pt_not (pt_val (n_d nm D8 (by decide) ?g1 (pa_cons (n_m0 nm hM EH (by decide) (n_dK nm GM (by decide) ?g2 (pk_cons ?k1 (pk_cons ?k2 pk_nil)))) (pa_cons pe_bl pa_nil))))))))) ?z pss_nil
        case t1 => walk_at "pt"
        case x1 => walk_at "pe"
        case g1 => walk_at "mem"
        case g2 => walk_at "mem"
        case k1 => walk_at "pe"
        case k2 => walk_at "pe"
        case z => walk_at "pss"
end

theorem goodD_succ : ∀ {n c : Nat} {d : PyData}, GoodD n d c → GoodD (n + 1) d c := by
  intro n
  induction n with
  | zero => intro c d h; cases d <;> first | exact h | exact h.elim
  | succ n ih =>
    intro c d h
    cases d with
    | list ds => obtain ⟨h1, cs, h2, h3, h4⟩ := h; exact ⟨h1, cs, h2, h3, fun i d k a b => ih (h4 i d k a b)⟩
    | tuple ds => obtain ⟨h1, cs, h2, h3, h4⟩ := h; exact ⟨h1, cs, h2, h3, fun i d k a b => ih (h4 i d k a b)⟩
    | dict ds => exact h.elim
    | _ => exact h
theorem join_self (H H' : Hp) : Same (joinH H H H') H' := fun b o e => by
  unfold joinH at e
  split at e
  · exact e
  · exact newOf_same _ _ e
theorem MAt.ext {H H' : Hp} {t : Addr} {p : Int} {M : Mach} {st : Int} (h : MAt H t p M st) (e : LamX.ExtN H H') : MAt H' t p M st := by
  obtain ⟨r, xs, h1, h2, h3⟩ := h
  exact ⟨r, xs, ext_tup e h1, ext_lst e h2, h3.1, fun i v s e1 e2 => by
    obtain ⟨a, g, rfl, e3, e4⟩ := h3.2 i v s e1 e2
    exact ⟨a, g, rfl, ext_tup e e3, ext_tup e e4⟩⟩
theorem good_s {n : Nat} {i : Int} (h0 : 0 ≤ i) (h1 : i < 1000) : GoodD n (.int i) 5000 := (good_small h0 h1).up (by decide)
theorem sub_valX {α : Type} {p : α → Prop} (a : α) (h : p a) : (Subtype.mk a h).val = a := rfl
/-- told: the pairs and the index of the one that comes again -/
def dueM (p : Int) (M : Mach) (st : Int) (N : Mach) (su : Int) (n i : Nat) : PyData := .tuple [.str "", .tuple [.list ((trailP p M st N su n).map prD), .int (i : Int)]]
theorem good_intsP {n : Nat} {ds : List Int} (hl : ds.length ≤ 1000) (h : ∀ d ∈ ds, 0 ≤ d ∧ d < 1000) : GoodD (n + 1) (.list (ds.map PyData.int)) 5100000 :=
  (good_lst (n := n) (m := 5000) (by rw [List.length_map]; exact hl) fun e he => by
    obtain ⟨d, hd, rfl⟩ := List.mem_map.mp he
    exact (good_small (h d hd).1 (h d hd).2).up (by decide)).up (by rw [List.length_map]; exact Nat.le_trans (Nat.add_le_add (Nat.mul_le_mul hl (Nat.le_refl _)) (Nat.le_refl _)) (by decide))
theorem good_pr {n : Nat} {p : Int} {M : Mach} {st : Int} {N : Mach} {su : Int} (hO : OkT p M st) (hV : OkT p N su) (j : Nat) : GoodD (n + 2) (prD (pairN p M st N su j)) 11000000 := by
  have a1 := itC_ok hO.pr M st j
  have a2 := itC_ok hV.pr N su j
  have p7 : p ≤ 7 := by rcases hO.pr with h | h | h | h <;> omega
  have l1 := a1.len
  have l2 := a2.len
  have m1 := hO.le
  have m2 := hV.le
  refine (good_tup (n := n + 1) (m := 5100000) (by show 2 ≤ 1000; decide) fun e he => ?_).up (by show 2 * (5100000 + 2) + 5 ≤ 11000000; decide)
  rcases List.mem_cons.mp he with z | z
  · rw [z]
    exact good_intsP (by show (itC p M st j).length ≤ 1000; omega) fun d hd => by have := a1.val d hd; omega
  · rw [List.mem_singleton.mp z]
    exact good_intsP (by show (itC p N su j).length ≤ 1000; omega) fun d hd => by have := a2.val d hd; omega
theorem good_dueM {p : Int} {M : Mach} {st : Int} {N : Mach} {su : Int} (hO : OkT p M st) (hV : OkT p N su) {n i : Nat} (hn : n ≤ 300) (hi : i < n) : GoodD 11 (dueM p M st N su n i) 90000000000 := by
  refine (good_tup (n := 10) (m := 40000000000) (by show 2 ≤ 1000; decide) fun e he => ?_).up (by show 2 * (40000000000 + 2) + 5 ≤ 90000000000; decide)
  rcases List.mem_cons.mp he with z | z
  · rw [z]; exact (⟨by decide +kernel, by decide +kernel⟩ : GoodD 10 (.str "") 40000000000)
  · rw [List.mem_singleton.mp z]
    refine (good_tup (n := 9) (m := 12000000000) (by show 2 ≤ 1000; decide) fun e he => ?_).up (by show 2 * (12000000000 + 2) + 5 ≤ 40000000000; decide)
    rcases List.mem_cons.mp he with z | z
    · rw [z]
      refine (good_lst (n := 8) (m := 11000000) (by rw [List.length_map, trailP_len]; omega) fun e he => ?_).up (by rw [List.length_map, trailP_len]; exact Nat.le_trans (Nat.add_le_add (Nat.mul_le_mul hn (Nat.le_refl _)) (Nat.le_refl _)) (by decide))
      obtain ⟨q, hq, rfl⟩ := List.mem_map.mp he
      unfold trailP at hq
      obtain ⟨j, _, rfl⟩ := List.mem_map.mp hq
      exact good_pr (n := 6) hO hV j
    · rw [List.mem_singleton.mp z]
      exact (good_small (by omega) (by omega)).up (by decide)
theorem dp_two {K : PySem.W.Frag} {H : Hp} {v : V} {nm : Str} {d : PyData} (h : Dp K H v (.tuple [.str nm, d])) : ∃ pr w, v = .ref pr ∧ SqT K H pr [.str nm, w] := by
  cases h with
  | tup hs ha =>
    cases ha with
    | cons h1 h2 =>
      cases h2 with
      | cons h3 h4 =>
        cases h4
        cases h1
        exact ⟨_, _, rfl, hs⟩
/-- what the law has found out -/
inductive DueE (p : Int) (M : Mach) (st : Int) (N : Mach) (su : Int) : Str → PyData → Prop
  | zero (k : Nat) (hk : k < 300) (hg : ∀ j, j < k → NewP p M st N su j ∧ TotP p M st N su j) (hw : NewP p M st N su k) (h0 : totN p M st k = 0 ∨ totN p N su k = 0) : DueE p M st N su "NotSingle" (.tuple [])
  | unlike (k : Nat) (hk : k < 300) (hg : ∀ j, j < k → NewP p M st N su j ∧ TotP p M st N su j) (hw : NewP p M st N su k) (h0 : totN p M st k ≠ 0) (h1 : totN p N su k ≠ 0) (hne : totN p M st k ≠ totN p N su k) : DueE p M st N su "NoRelabelling" (.tuple [.int ((k : Int) + 1)])
  | back (n i : Nat) (hn : n ≤ 300) (hg : ∀ j, j < n → NewP p M st N su j ∧ TotP p M st N su j) (hi : i < n) (he : pairN p M st N su i = pairN p M st N su n) (hb : ∀ k, k < i → pairN p M st N su k ≠ pairN p M st N su n) : DueE p M st N su "" (.tuple [.list ((trailP p M st N su n).map prD), .int (i : Int)])
section
variable {P : Program} {w : World} {K : PySem.W.Frag} {mg : Str → Option Value} {base : Heap} {C CPD CIC CTM CN CR CM C1 C2 C3 : Addr} {c PL : Addr}
set_option maxHeartbeats 0 in
theorem ok_law {f : Addr} {od an : Option Addr} {osl : Array (Option Value)} {oc kV doc pm ct : Value} (lk : K.lookup f = some ⟨oc, od, .func (PySem.W.fnOf "law" "law" (defArgs sLaw) (defBody sLaw) (defScope sLaw) .none kV doc pm an (.ref c) ct), osl⟩) (hcd : PySem.W.codeIn K (.ref c) "law" = true)
    (TB : LamX.TabB base mg c PL) (b1 : mg "len" = none) (br : mg "range" = none) (hM : Cls K CM)
    (D1 : Df P w K mg base 1 "_law_bag" ["_law_script"] (spBag K)) (D2 : Df P w K mg base 3 "_law_prime" ["_law_bag_here"] spPrime) (DO : Df P w K mg base 2 "_law_of" ["_law_bag_here", "_law_some"] spOf) (DS : Df P w K mg base 4 "_law_single" ["_law_bag_here", "_law_p"] spSgL) (DP : Df P w K mg base 3 "_law_plain" ["_law_bag_here", "_law_p", "_law_top"] spPlain)
    (DU : Df P w K mg base 1 "_law_undone" ["_law_m"] spLUnd) (DD : Df P w K mg base 3 "_law_doubled" ["_law_bag_here", "_law_m"] spDb) (DB : Df P w K mg base 3 "_law_bent" ["_law_bag_here", "_law_m"] spBt)
    (DF : Df P w K mg base 1 "_law_first" ["_law_m"] spLF) (DL : Df P w K mg base 1 "_law_later" ["_law_m", "_law_row"] spLL) (DT : Df P w K mg base 1 "_law_sum" ["_law_m", "_law_row"] spLS)
    (DM : Df P w K mg base 7 "_law_made" ["_law_m"] (spMade C)) (D8 : Df P w K mg base 12 "_law_same" ["_law_found", "_law_due"] (spS K 12)) (DG : Df P w K mg base 21 "_law_got" ["_law_ask"] (spGot P w K mg base [.ref C1, .ref C2, .ref C3]))
    (GM : DfK P w K mg base 13 "match" ["one", "other", "most"] ["other", "one"] gSwM (spMtG C CM)) (EH : Mf P w K mg base 9 CM "holds" ["self"] (spMh C CM)) (hTM : CatC K [.ref C1, .ref C2, .ref C3] CTM) (hNS : CatC K [.ref C1, .ref C2, .ref C3] CN) (hNR : CatC K [.ref C1, .ref C2, .ref C3] CR) (DTo : Df P w K mg base 7 "_law_match_told" ["_law_found"] (spMtl CM))
    (XMd : DdX P w K mg base 13 "match" ["one", "other", "most"] [.int 2000] (spMt K C CPD CIC CTM CN CR CM)) :
    FnOk P w K mg base CX0 24 f (PySem.W.fnOf "law" "law" (defArgs sLaw) (defBody sLaw) (defScope sLaw) .none kV doc pm an (.ref c) ct) ["_law_script"] (spLawT K PL) := by
  refine fn_of lk hcd scLaw (fun vs H Q E h => ?_) (fun A outer s H vs Q E hr h => ?_)
  · obtain ⟨a, ns, rfl, _⟩ := h
    rfl
  · obtain ⟨a0, ns, rfl, hSc, h63, hPL, k⟩ := h
    have nm := nm_of (CX := CX0) (P := P) (w := w) (K := K) (mg := mg) (base := base) (outer := outer) (H := H) (E := E) nmLaw hr
    refine ex_mk (PSs.nox (rdLaw nm TB b1 br hM D1 D2 DO DS DP DU DD DB DF DL DT DM D8 DG GM EH).2) ?_
    delta rdLaw
    rw [sub_valX]
    rotate_left
    · exact (rdLaw nm TB b1 br hM D1 D2 DO DS DP DU DD DB DF DL DT DM D8 DG GM EH).2
    try dsimp (config := { proj := false }) only [gName, List.set_cons_succ, List.set_cons_zero]
    refine ⟨_, rfl, a0, ns, rfl, hSc, fun H0 b l s0 hb0 hB0 => ?_⟩
    have hT0 : NdefX.TabsN [(PL, nmWL)] H0 := fun p hp => by
      rw [List.mem_singleton.mp hp]; exact NdefX.TabN.nil (s0 _ _ hPL)
    refine ⟨4, rfl, by decide, by decide, for_range (lo := 0) (n := 4) (fun i σ H' => ∃ v2 v3 v4 v5 v6 v7 v8 v9 va, σ = [some (.ref a0), some (.ref b), v2, v3, v4, v5, v6, v7, v8, v9, va] ∧ Bag H' b l ∧ NdefX.TabsN [(PL, nmWL)] H')
      ⟨none, none, none, none, none, none, none, none, none, rfl, hB0, hT0⟩ ?_ ?_⟩
    · rintro i σ H' hi ⟨v2, v3, v4, v5, v6, v7, v8, v9, va, rfl, hB, hT⟩
      try dsimp (config := { proj := false }) only [gName, List.set_cons_succ, List.set_cons_zero]
      refine ⟨_, rfl, b, l, rfl, hB, fun H1 p st1 hP => ?_⟩
      have hp2 := hP.two
      have B1 := st1.2
      have T1 := tabs_keep hT hB st1.1
      try dsimp (config := { proj := false }) only [gName, List.set_cons_succ, List.set_cons_zero]
      -- m
      refine ⟨_, rfl, _, rfl, _, rfl, b, l, _, rfl, B1, hP, fun H2 t1 M1 s1 st2 A1 O1 L1 => ?_⟩
      have B2 := st2.2
      refine ⟨_, rfl, _, rfl, b, l, _, rfl, B2, hP, fun H3 t2 M2 s2 st3 A2 O2 L2' => ?_⟩
      have B3 := st3.2
      refine ⟨_, rfl, _, rfl, b, l, _, 3, rfl, B3, hP, by decide, by decide, fun H4 t3 r3 xs3 M3 s3 st4 hg0 hr0 hg hr3 hM3 hO3 m0 m1 z0 z1 => ?_⟩
      have B4 := st4.2
      have A3 : MAt H4 t3 p M3 s3 := ⟨r3, xs3, hg, hr3, hM3⟩
      have O3 : OkT p M3 s3 := ⟨hP, hO3, z0, z1, by omega⟩
      refine ⟨by show 3 ≤ sizeLine; decide, fun q4 hq4 => ?_⟩
      have s4 := same_new (o := .lst [.ref t1, .ref t2, .ref t3]) hq4
      have B4q := B4.same s4
      refine ⟨b, l, q4, _, rfl, B4q, upd_same, B4.ne hq4, by show 0 < 3; decide, by show 3 ≤ 1000; decide, fun H5 jn vn st5 hvn => ?_⟩
      obtain ⟨t, M, st, rfl, At, hO, hML⟩ : ∃ t M st, vn = V.ref t ∧ MAt H5 t p M st ∧ OkT p M st ∧ M.length ≤ 100 := by
        match jn, hvn with
        | 0, h => obtain rfl := Option.some.inj h; exact ⟨t1, M1, s1, rfl, (((A1.keep B2 st3.1).keep B3 st4.1).same s4).keep B4q st5.1, O1, L1⟩
        | 1, h => obtain rfl := Option.some.inj h; exact ⟨t2, M2, s2, rfl, ((A2.keep B3 st4.1).same s4).keep B4q st5.1, O2, L2'⟩
        | 2, h => obtain rfl := Option.some.inj h; exact ⟨t3, M3, s3, rfl, (A3.same s4).keep B4q st5.1, O3, by omega⟩
        | j + 3, h => exact absurd h (by simp)
      have B5 := st5.2
      have T5 := tabs_keep (tabs_same (tabs_keep (tabs_keep (tabs_keep T1 B1 st2.1) B2 st3.1) B3 st4.1) s4) B4q st5.1
      clear hvn A1 A2 A3 hM3 hO3 hg hr3 s4 B4q
      try dsimp (config := { proj := false }) only [gName, List.set_cons_succ, List.set_cons_zero]
      -- n
      refine ⟨_, rfl, _, rfl, _, rfl, b, l, _, rfl, B5, hP, fun H6 u1 N1 e1 st6 U1 P1 _ => ?_⟩
      have B6 := st6.2
      have At6 := At.keep B5 st6.1
      refine ⟨_, rfl, t, _, M, st, rfl, At6, hO, fun H7 u2 s7 U2 => ?_⟩
      have B7 := B6.same s7
      have At7 := At6.same s7
      refine ⟨_, rfl, _, rfl, b, l, t, _, M, st, rfl, B7, At7, hO, hML, fun H8 u3 N3 e3 os st8 U3 P3 _ => ?_⟩
      have B8 := st8.2
      have At8 := At7.keep B7 st8.1
      refine ⟨_, rfl, _, rfl, b, l, t, _, M, st, rfl, B8, At8, hO, fun H9 u4 N4 st9 U4 P4 => ?_⟩
      have B9 := st9.2
      have At9 := At8.keep B8 st9.1
      refine ⟨by show 4 ≤ sizeLine; decide, fun q9 hq9 => ?_⟩
      have s9 := same_new (o := .lst [.ref u1, .ref u2, .ref u3, .ref u4]) hq9
      have B9q := B9.same s9
      refine ⟨b, l, q9, _, rfl, B9q, upd_same, B9.ne hq9, by show 0 < 4; decide, by show 4 ≤ 1000; decide, fun Ha jn2 vn2 stA hvn2 => ?_⟩
      have kA := fun {t' : Addr} {M' : Mach} {s' : Int} (h : MAt H9 t' p M' s') => (h.same s9).keep B9q stA.1
      obtain ⟨u, N, su, rfl, Au, hV⟩ : ∃ u N su, vn2 = V.ref u ∧ MAt Ha u p N su ∧ OkT p N su := by
        match jn2, hvn2 with
        | 0, h => obtain rfl := Option.some.inj h; exact ⟨u1, N1, e1, rfl, kA (((U1.same s7).keep B7 st8.1).keep B8 st9.1), P1⟩
        | 1, h => obtain rfl := Option.some.inj h; exact ⟨u2, _, st, rfl, kA ((U2.keep B7 st8.1).keep B8 st9.1), hO.und0⟩
        | 2, h => obtain rfl := Option.some.inj h; exact ⟨u3, N3, e3, rfl, kA (U3.keep B8 st9.1), P3⟩
        | 3, h => obtain rfl := Option.some.inj h; exact ⟨u4, N4, st, rfl, kA U4, P4⟩
        | j + 4, h => exact absurd h (by simp)
      have Bn := stA.2
      have Am := kA At9
      have Tn := tabs_keep (tabs_same (tabs_keep (tabs_keep (tabs_same (tabs_keep T5 B5 st6.1) s7) B7 st8.1) B8 st9.1) s9) B9q stA.1
      clear hvn2 At At6 At7 At8 At9 U1 U2 U3 U4 kA B9q s9
      try dsimp (config := { proj := false }) only [gName, List.set_cons_succ, List.set_cons_zero]
      -- due, rows
      refine ⟨_, rfl, t, _, M, st, rfl, Am, hO, fun Hb ra sb ra0 hra => ?_⟩
      refine ⟨_, rfl, u, _, N, su, rfl, Au.same sb, hV, fun Hc rb sc rb0 hrb => ?_⟩
      refine ⟨by show 2 ≤ sizeLine; decide, fun e0 he0 => ?_⟩
      refine ⟨by show 1 ≤ sizeLine; decide, fun R0 hR0 => ?_⟩
      refine ⟨_, _, rfl, ?_⟩
      have se0 := same_new (o := .tup [.ref ra, .ref rb]) he0
      have sR0 := same_new (o := .lst [.ref e0]) hR0
      have sAll := Same.trans sb (Same.trans sc (Same.trans se0 sR0))
      have hPR : PairsI (upd (upd Hc e0 (.tup [.ref ra, .ref rb])) R0 (.lst [.ref e0])) [.ref e0] (trailP p M st N su 1) := ⟨rfl, fun i v q e1 e2 => by
        match i, e1, e2 with
        | 0, e1, e2 =>
          obtain rfl := Option.some.inj e1
          obtain rfl := Option.some.inj e2
          exact ⟨e0, ra, rb, rfl, sR0 _ _ upd_same, sR0 _ _ (se0 _ _ (sc _ _ hra)), sR0 _ _ (se0 _ _ hrb)⟩
        | i + 1, e1, e2 => exact absurd e1 (by simp)⟩
      have hR0' : upd (upd Hc e0 (.tup [.ref ra, .ref rb])) R0 (.lst [.ref e0]) R0 = some (.lst [.ref e0]) := upd_same
      generalize upd (upd Hc e0 (.tup [.ref ra, .ref rb])) R0 (.lst [.ref e0]) = Hd at sAll hPR hR0' ⊢
      have Bd := Bn.same sAll
      have Td := tabs_same Tn sAll
      have Ad := Am.same sAll
      have Ud := Au.same sAll
      clear sb sc se0 sR0 hra hrb Am Au Bn Tn sAll
      try dsimp (config := { proj := false }) only [gName, List.set_cons_succ, List.set_cons_zero]
      refine ⟨fun m' σ H' => ∃ (dv rv : V) (v8 v9 : Option V), σ = [some (.ref a0), some (.ref b), some (.int (0 + (i : Int))), some (.int p), some (.ref t), some (.ref u), some dv, some rv, v8, v9, va] ∧ Same Hd H' ∧
        ((dv = .non ∧ ∃ (j : Nat) (R : Addr) (xs : List V), m' + j = 300 ∧ rv = .ref R ∧ H' R = some (.lst xs) ∧ PairsI H' xs (trailP p M st N su (j + 1)) ∧ j < 300 ∧ (∀ k, k < j → NewP p M st N su k ∧ TotP p M st N su k) ∧ NewP p M st N su j) ∨ (m' = 0 ∧ ∃ nm d, DueE p M st N su nm d ∧ Dp K H' dv (.tuple [.str nm, d]))),
        ⟨300, .non, .ref R0, v8, v9, rfl, fun _ _ e => e, .inl ⟨rfl, 0, R0, _, rfl, rfl, hR0', hPR, by decide, fun k hk => absurd hk (Nat.not_lt_zero k), fun i hi => absurd hi (Nat.not_lt_zero i)⟩⟩, ?_⟩
      rintro m' σ He ⟨dv, rv, v8', v9', rfl, sE, hI⟩
      rcases hI with ⟨rfl, j, R, xs, hm, rfl, hRl, hPx, hj300, hgo, hnw⟩ | ⟨rfl, nm', d', hDu, hDp⟩
      · refine ⟨_, rfl, rfl, _, rfl, ?_⟩
        refine iteT ?_
        refine ⟨_, rfl, R, _, rfl, .inl (SqL.of hRl), _, _, rfl, rfl, _, rfl, ?_⟩
        have hxl : xs.length = j + 1 := by rw [hPx.1, trailP_len]
        by_cases cj : j + 1 < 300
        · rw [show decide (((xs.length : Nat) : Int) < 300) = true from decide_eq_true (by omega)]
          refine iteT ?_
          refine ⟨_, fun _ _ h => h, ?_⟩
          have hx : xs[j]? = some xs[j] := List.getElem?_eq_getElem (by omega)
          obtain ⟨e, a, b', ev, he, ha, hb⟩ := hPx.2 j _ _ hx (trailP_at (Nat.lt_succ_self j))
          have hat : atI xs (-1) = some (.ref e) := at_last (n := j) hxl (by rw [hx, ev])
          have cM := itC_ok hO.pr M st j
          have cN := itC_ok hV.pr N su j
          refine ⟨_, rfl, _, rfl, _, rfl, R, xs, _, _, rfl, rfl, SqL.of hRl, hat, e, _, 0, _, rfl, rfl, SqT.of he, rfl, t, a, p, M, st, itC p M st j, rfl, Ad.same sE, hO, ha, cM, fun Hf sf => ?_⟩
          refine ⟨_, rfl, _, rfl, _, rfl, R, xs, _, _, rfl, rfl, SqL.of (sf _ _ hRl), hat, e, _, 1, _, rfl, rfl, SqT.of (sf _ _ he), rfl, u, b', p, N, su, itC p N su j, rfl, Ud.same (Same.trans sE sf), hV, sf _ _ hb, cN, fun Hg sg => ?_⟩
          refine ⟨by show 2 ≤ sizeLine; decide, fun S hS => ?_⟩
          have sS := same_new (o := .tup [.int (totC p M (itC p M st j)), .int (totC p N (itC p N su j))]) hS
          have eqS : upd Hg S (.tup [.int (totC p M (itC p M st j)), .int (totC p N (itC p N su j))]) S = some (.tup [.int (totC p M (itC p M st j)), .int (totC p N (itC p N su j))]) := upd_same
          have sh := Same.trans sf (Same.trans sg sS)
          generalize upd Hg S (.tup [.int (totC p M (itC p M st j)), .int (totC p N (itC p N su j))]) = Hh at sS eqS sh ⊢
          rw [show totC p M (itC p M st j) = totN p M st j from rfl, show totC p N (itC p N su j) = totN p N su j from rfl] at eqS
          clear sS
          try dsimp (config := { proj := false }) only [gName, List.set_cons_succ, List.set_cons_zero]
          refine ⟨_, rfl, _, rfl, _, rfl, R, xs, _, _, rfl, rfl, SqL.of (sh _ _ hRl), hat, e, _, 0, _, rfl, rfl, SqT.of (sh _ _ he), rfl, t, a, p, M, st, itC p M st j, rfl, Ad.same (Same.trans sE sh), hO, sh _ _ ha, cM, fun Hi la si la0 hla => ?_⟩
          have shi := Same.trans sh si
          refine ⟨_, rfl, _, rfl, _, rfl, R, xs, _, _, rfl, rfl, SqL.of (shi _ _ hRl), hat, e, _, 1, _, rfl, rfl, SqT.of (shi _ _ he), rfl, u, b', p, N, su, itC p N su j, rfl, Ud.same (Same.trans sE shi), hV, shi _ _ hb, cN, fun Hj lb sj lb0 hlb => ?_⟩
          refine ⟨by show 2 ≤ sizeLine; decide, fun L hL => ?_⟩
          have sL := same_new (o := .tup [.ref la, .ref lb]) hL
          have hLt : upd Hj L (.tup [.ref la, .ref lb]) L = some (.tup [.ref la, .ref lb]) := upd_same
          have hla' : upd Hj L (.tup [.ref la, .ref lb]) la = some (.lst ((pairN p M st N su (j + 1)).1.map V.int)) := sL _ _ (sj _ _ hla)
          have hlb' : upd Hj L (.tup [.ref la, .ref lb]) lb = some (.lst ((pairN p M st N su (j + 1)).2.map V.int)) := sL _ _ hlb
          have sk := Same.trans si (Same.trans sj sL)
          generalize upd Hj L (.tup [.ref la, .ref lb]) = Hk at sL hLt hla' hlb' sk ⊢
          have shk := Same.trans sh sk
          have hR' := shk _ _ hRl
          have hP' := hPx.same shk
          have eqS' := sk _ _ eqS
          have sHk := Same.trans sE shk
          try dsimp (config := { proj := false }) only [gName, List.set_cons_succ, List.set_cons_zero]
          with_reducible (show tSeq (tIfS _ _ _) (tAsg _ _) _ _ _)
          refine cut (Pv := fun σ' H4 => ∃ dv, σ' = [some (.ref a0), some (.ref b), some (.int (0 + (i : Int))), some (.int p), some (.ref t), some (.ref u), some dv, some (.ref R), some (.ref S), some (.ref L), va] ∧ Same Hk H4 ∧ ((dv = .non ∧ TotP p M st N su j ∧ NewP p M st N su (j + 1)) ∨ ∃ nm d, DueE p M st N su nm d ∧ Dp K H4 dv (.tuple [.str nm, d]))) ?_ ?_
          · rintro σ' H4 ⟨dv, rfl, s4, hI⟩
            try dsimp (config := { proj := false }) only [gName, List.set_cons_succ, List.set_cons_zero]
            rcases hI with ⟨rfl, hT, hN1⟩ | ⟨nm', d', hDu, hDp⟩
            · refine ⟨_, rfl, rfl, _, rfl, ?_⟩
              refine iteT ?_
              refine ⟨_, rfl, _, rfl, by show 1 ≤ sizeLine; decide, fun L1 hL1 => ?_⟩
              have sl := same_new (o := .lst [.ref L]) hL1
              refine cat_lst (sl _ _ (s4 _ _ hR')) upd_same (by rw [hxl]; show j + 1 + 1 ≤ 1000; omega) fun R' H6 s6 _ hR6 => ?_
              have s46 := Same.trans s4 (Same.trans sl s6)
              try dsimp (config := { proj := false }) only [gName, List.set_cons_succ, List.set_cons_zero]
              refine ⟨m' - 1, by omega, .non, .ref R', _, _, rfl, Same.trans sHk s46, .inl ⟨rfl, j + 1, R', _, by omega, rfl, hR6, ?_, by omega, fun k hk => ?_, hN1⟩⟩
              · rw [trailP_succ]
                exact (hP'.same s46).snoc (s46 _ _ hLt) (s46 _ _ hla') (s46 _ _ hlb')
              · rcases Nat.lt_or_ge k j with h | h
                · exact hgo k h
                · obtain rfl : k = j := by omega
                  exact ⟨hnw, hT⟩
            · obtain ⟨qd, wd, rfl, hsd⟩ := dp_two hDp
              refine ⟨_, rfl, rfl, _, rfl, ?_⟩
              refine iteF ?_
              refine ⟨_, rfl, ?_⟩
              try dsimp (config := { proj := false }) only [gName, List.set_cons_succ, List.set_cons_zero]
              exact ⟨0, by omega, _, _, _, _, rfl, Same.trans sHk s4, .inr ⟨rfl, nm', d', hDu, hDp⟩⟩
          · intro Nn hNn
            refine ⟨_, rfl, S, _, rfl, .inr (SqT.of eqS'), rfl, rfl, _, rfl, ?_⟩
            have hin : inV (V.int 0) [V.int (totN p M st j), V.int (totN p N su j)] = (decide (totN p M st j = 0) || decide (totN p N su j = 0)) := by
              show ((totN p M st j == 0) || ((totN p N su j == 0) || false)) = _
              rw [Bool.or_false]
              rfl
            rw [if_neg (by decide), hin]
            by_cases c0 : totN p M st j = 0 ∨ totN p N su j = 0
            · rw [show (decide (totN p M st j = 0) || decide (totN p N su j = 0)) = true by rcases c0 with c0 | c0 <;> simp [c0]]
              refine iteT ?_
              refine ⟨by show 0 ≤ sizeLine; decide, fun w1 hw1 => ⟨by show 2 ≤ sizeLine; decide, fun w2 hw2 => ?_⟩⟩
              refine hNn _ _ ⟨.ref w2, rfl, same_add (same_new hw1) hw2, .inr ⟨"NotSingle", _, .zero j hj300 hgo hnw c0, .tup (SqT.of upd_same) (.cons (.str _) (.cons (.tup (SqT.of (same_new hw2 _ _ upd_same)) .nil) .nil))⟩⟩
            have n1 : totN p M st j ≠ 0 := fun e => c0 (.inl e)
            have n2 : totN p N su j ≠ 0 := fun e => c0 (.inr e)
            rw [show (decide (totN p M st j = 0) || decide (totN p N su j = 0)) = false by simp [n1, n2]]
            refine iteF ?_
            refine ⟨_, rfl, S, _, 0, _, rfl, rfl, SqT.of eqS', rfl, _, rfl, S, _, 1, _, rfl, rfl, SqT.of eqS', rfl, rfl, _, rfl, ?_⟩
            rw [dec_int]
            by_cases ce : totN p M st j = totN p N su j
            case neg =>
              rw [show (!totN p M st j == totN p N su j) = true by simp [ce]]
              refine iteT ?_
              refine ⟨_, rfl, R, _, rfl, .inl (SqL.of hR'), by show 1 ≤ sizeLine; decide, fun w1 hw1 => ⟨by show 2 ≤ sizeLine; decide, fun w2 hw2 => ?_⟩⟩
              refine hNn _ _ ⟨.ref w2, rfl, same_add (same_new hw1) hw2, .inr ⟨"NoRelabelling", _, .unlike j hj300 hgo hnw n1 n2 ce, .tup (SqT.of upd_same) (.cons (.str _) (.cons (.tup (SqT.of (same_new hw2 _ _ upd_same)) (.cons ?_ .nil)) .nil))⟩⟩
              rw [hxl]
              exact .int _
            rw [show (!totN p M st j == totN p N su j) = false by simp [ce]]
            refine iteF ?_
            refine ⟨_, rfl, _, rfl, in_prs hLt hla' hlb' hR' hP' ⟨_, rfl, ?_⟩⟩
            by_cases cm : pairN p M st N su (j + 1) ∈ trailP p M st N su (j + 1)
            case neg =>
              rw [decide_eq_false cm]
              refine iteF ?_
              refine hNn _ _ ⟨.non, rfl, fun _ _ e => e, .inl ⟨rfl, ⟨n1, n2, ce⟩, fun k hk e => cm ?_⟩⟩
              unfold trailP
              exact List.mem_map.mpr ⟨k, List.mem_range.mpr hk, e⟩
            rw [decide_eq_true cm]
            refine iteT ?_
            obtain ⟨i0, hi0, hie, hib⟩ := not_new (n := j + 1) (p := p) (M := M) (st := st) (N := N) (su := su) fun h => by
              unfold trailP at cm
              obtain ⟨k, hk, e⟩ := List.mem_map.mp cm
              exact h k (List.mem_range.mp hk) e
            refine ⟨_, rfl, _, rfl, .inl ⟨rfl, _, SqL.of hR'⟩, _, rfl, ?_⟩
            try dsimp only [tNil]
            refine index_prs hLt hla' hlb' hR' hP' (i := i0) (by rw [trailP_at hi0, hie]) (fun m z hm hz => ?_) ?_
            · rw [trailP_at (by omega)] at hz
              rw [← Option.some.inj hz]
              exact hib m hm
            refine ⟨by show 2 ≤ sizeLine; decide, fun w1 hw1 => ⟨by show 2 ≤ sizeLine; decide, fun w2 hw2 => ?_⟩⟩
            have sw1 := same_new (o := .tup [.ref R, .int (i0 : Int)]) hw1
            have sw2 := same_new (o := .tup [.str "", .ref w1]) hw2
            have sw := Same.trans sw1 sw2
            refine hNn _ _ ⟨.ref w2, rfl, sw, .inr ⟨"", _, .back (j + 1) i0 (by omega) (fun k hk => ?_) hi0 hie hib, .tup (SqT.of upd_same) (.cons (.str _) (.cons (.tup (SqT.of (sw2 _ _ upd_same)) (.cons (.lst (SqL.of (sw _ _ hR')) (dp_prs xs _ (hP'.same sw))) (.cons (.int _) .nil))) .nil))⟩⟩
            rcases Nat.lt_or_ge k j with h | h
            · exact hgo k h
            · obtain rfl : k = j := by omega
              exact ⟨hnw, n1, n2, ce⟩
        · rw [show decide (((xs.length : Nat) : Int) < 300) = false from decide_eq_false (by omega)]
          refine iteF ?_
          try dsimp (config := { proj := false }) only [gName, List.set_cons_succ, List.set_cons_zero]
          refine ⟨tabs_same Td sE, fun f1 c1 I1 e1 nn1 T1 f10 f11 c11 => ?_⟩
          intro cs L
          have AZ := (Ad.same sE).ext e1
          have UZ := (Ud.same sE).ext e1
          have sLO := same_lend (H := I1) L.free
          refine ⟨f1, (fun _ _ => True), lend cs I1, rfl, fun _ _ e => e, ?_, fun pr Hy sp hpr hR => ?_⟩
          · refine lamTo_of (k := 18) (N := ["_law_m", "_law_n"]) (ps := []) (fr := ["_law_m", "_law_n"]) (vs := []) (tb := fun E => tD (spMtl CM) (tCons (tCall (spMt K C CPD CIC CTM CN CR CM) [.int 2000] E (tCons (tD (spMade C) (tCons (tVar 0) tNil)) (tCons (tD (spMade C) (tCons (tVar 1) tNil)) tNil))) tNil)) (cs := cs) (ws := [some (.ref t), some (.ref u)]) (by decide) (lam_ok (NdefX.nscope_by (by dsimp only; decide +kernel)) rfl fun A outer s H E hr => ?_) (sLO _ _ f11) (sLO _ _ c11) (fun H0 _ => .inl ⟨rfl, rfl, rfl, fun pm ctv => rfl⟩) (lent_lend cs I1) (lent_by (N := nLaw) (sc := defScope sLaw) (is := [4, 5]) (by first | decide +kernel | (dsimp only; decide +kernel)) L) fun H0 Q E s0 l0 hQ hE => ?_
            · have nm := nm_lam (CX := L2.CX P w) (NS := [("_law_m", 0), ("_law_n", 1)]) (G := ["_law_match_told", "match", "_law_made"]) (P := P) (w := w) (K := K) (mg := mg) (base := base) (N := ["_law_m", "_law_n"]) (outer := outer) (H := H) (E := E) (by dsimp only; decide +kernel) hr
              refine' n_d nm DTo (by decide) ?g (pa_cons (n_ddX nm XMd (by decide) ?g0 (takes_of rfl rfl rfl rfl) (pa_cons (n_d nm DM (by decide) ?g1 (pa_cons ?a1 pa_nil)) (pa_cons (n_d nm DM (by decide) ?g2 (pa_cons ?a2 pa_nil)) pa_nil))) pa_nil)
              case g => walk_at "mem"
              case g0 => walk_at "mem"
              case g1 => walk_at "mem"
              case a1 => walk_at "pe"
              case g2 => walk_at "mem"
              case a2 => walk_at "pe"
            · have sU := (same_over L.free s0)
              refine ⟨_, rfl, t, p, M, st, rfl, AZ.same sU, hO, fun G1 x r1 hx0 X => ?_⟩
              refine ⟨_, rfl, u, p, N, su, rfl, UZ.same (Same.trans sU r1), hV, fun G2 y r2 hy0 Y => ?_⟩
              have r12 := Same.trans r1 r2
              obtain ⟨n0, hn0, hg0, hend⟩ := mat_ex p M st N su 2000
              rcases hend with ⟨rfl, hw⟩ | hw | ⟨hl, hw, ht⟩
              · exact ⟨x, y, p, p, M, N, st, su, _, rfl, X.same r2, hO, Y, hV, .inr (.inr ⟨rfl, 2000, 2000, rfl, by decide, by decide, Nat.le_refl _, hg0, .most rfl hw (fun H1 s1 => errAt_same s1 (errAt_same r12 (out_err (Hb := lend cs I1) l0 hTM fun C dd tt fs nm H1 a b c d e f => hE C dd tt fs nm H1 a b c d e fun p H2 x y z => trivial)))⟩)⟩
              · obtain ⟨i0, hi0, he0, hb0'⟩ := not_new hw
                refine ⟨x, y, p, p, M, N, st, su, _, rfl, X.same r2, hO, Y, hV, .inr (.inr ⟨rfl, 2000, n0, rfl, by decide, by decide, hn0, hg0, .back i0 hi0 he0 hb0' fun H' z s1 hz0 hM => ?_⟩)⟩
                refine ⟨z, .ref x, .ref y, _, _, rfl, hM, by rw [trailP_len]; omega, fun q hq => ?_, fun H9 tt rr zs s9 ht0 hr0 ht hr hF => ?_⟩
                · unfold trailP at hq
                  obtain ⟨j, _, rfl⟩ := List.mem_map.mp hq
                  have c1 := (itC_ok hO.pr M st j).len
                  have c2 := (itC_ok hV.pr N su j).len
                  have m1 := hO.le
                  have m2 := hV.le
                  exact ⟨by show (itC p M st j).length ≤ 1000; omega, by show (itC p N su j).length ≤ 1000; omega⟩
                have sz := Same.trans r12 s1
                have hF0 := hF.past sz
                exact out_val (R := fun _ _ => True) l0 hQ (Same.trans sz s9) fun pr H2 sb sn hp => trivial
              · by_cases c1 : totN p M st n0 = 0 ∨ totN p N su n0 = 0
                · exact ⟨x, y, p, p, M, N, st, su, _, rfl, X.same r2, hO, Y, hV, .inr (.inr ⟨rfl, 2000, n0, rfl, by decide, by decide, hn0, hg0, .zero hl hw c1 (fun H1 s1 => errAt_same s1 (errAt_same r12 (out_err (Hb := lend cs I1) l0 hNS fun C dd tt fs nm H1 a b c d e f => hE C dd tt fs nm H1 a b c d e fun p H2 x y z => trivial)))⟩)⟩
                · exact ⟨x, y, p, p, M, N, st, su, _, rfl, X.same r2, hO, Y, hV, .inr (.inr ⟨rfl, 2000, n0, rfl, by decide, by decide, hn0, hg0, .unlike hl hw (fun e => c1 (.inl e)) (fun e => c1 (.inr e)) (fun e => ht ⟨fun e => c1 (.inl e), fun e => c1 (.inr e), e⟩) (fun H1 s1 => errAt_same s1 (errAt_same r12 (out_err (Hb := lend cs I1) l0 hNR fun C dd tt fs nm H1 a b c d e f => hE C dd tt fs nm H1 a b c d e fun p H2 x y z => trivial)))⟩)⟩
          have lp : Lent cs Hy := (lent_lend cs I1).same sp
          refine ⟨lp, ?_⟩
          have sou : Same I1 (unlend cs Hy) := same_over L.free sp
          have eHu := e1.trans (ext_same sou)
          generalize unlend cs Hy = Hu at sou eHu ⊢
          have BU := (Bd.same sE).ext eHu
          have TU := tabs_same T1 sou
          have AU := (Ad.same sE).ext eHu
          have UU := (Ud.same sE).ext eHu
          clear f10 f11 c11 L AZ UZ sLO sp hpr hR lp
          try dsimp (config := { proj := false }) only [gName, List.set_cons_succ, List.set_cons_zero]
          refine ⟨_, rfl, rfl, _, rfl, ?_⟩
          refine iteF ?_
          refine ⟨_, rfl, rfl, _, rfl, ?_⟩
          refine iteF ?_
          exact ⟨_, _, _, _, _, _, _, _, _, rfl, BU, TU⟩
      · obtain ⟨qd, wd, rfl, hsd⟩ := dp_two hDp
        refine ⟨_, rfl, rfl, _, rfl, ?_⟩
        refine iteF ?_
        cases hDu with
        | zero k1 hk1 hg1 hw1 h01 =>
          try dsimp (config := { proj := false }) only [gName, List.set_cons_succ, List.set_cons_zero]
          refine ⟨tabs_same Td sE, fun f1 c1 I1 e1 nn1 T1 f10 f11 c11 => ?_⟩
          intro cs L
          have AZ := (Ad.same sE).ext e1
          have UZ := (Ud.same sE).ext e1
          have sLO := same_lend (H := I1) L.free
          refine ⟨f1, dpR K (.tuple [.str "NotSingle", .tuple []]), lend cs I1, rfl, fun _ _ e => e, ?_, fun pr Hy sp hpr hR => ?_⟩
          · refine lamTo_of (k := 18) (N := ["_law_m", "_law_n"]) (ps := []) (fr := ["_law_m", "_law_n"]) (vs := []) (tb := fun E => tD (spMtl CM) (tCons (tCall (spMt K C CPD CIC CTM CN CR CM) [.int 2000] E (tCons (tD (spMade C) (tCons (tVar 0) tNil)) (tCons (tD (spMade C) (tCons (tVar 1) tNil)) tNil))) tNil)) (cs := cs) (ws := [some (.ref t), some (.ref u)]) (by decide) (lam_ok (NdefX.nscope_by (by dsimp only; decide +kernel)) rfl fun A outer s H E hr => ?_) (sLO _ _ f11) (sLO _ _ c11) (fun H0 _ => .inl ⟨rfl, rfl, rfl, fun pm ctv => rfl⟩) (lent_lend cs I1) (lent_by (N := nLaw) (sc := defScope sLaw) (is := [4, 5]) (by first | decide +kernel | (dsimp only; decide +kernel)) L) fun H0 Q E s0 l0 hQ hE => ?_
            · have nm := nm_lam (CX := L2.CX P w) (NS := [("_law_m", 0), ("_law_n", 1)]) (G := ["_law_match_told", "match", "_law_made"]) (P := P) (w := w) (K := K) (mg := mg) (base := base) (N := ["_law_m", "_law_n"]) (outer := outer) (H := H) (E := E) (by dsimp only; decide +kernel) hr
              refine' n_d nm DTo (by decide) ?g (pa_cons (n_ddX nm XMd (by decide) ?g0 (takes_of rfl rfl rfl rfl) (pa_cons (n_d nm DM (by decide) ?g1 (pa_cons ?a1 pa_nil)) (pa_cons (n_d nm DM (by decide) ?g2 (pa_cons ?a2 pa_nil)) pa_nil))) pa_nil)
              case g => walk_at "mem"
              case g0 => walk_at "mem"
              case g1 => walk_at "mem"
              case a1 => walk_at "pe"
              case g2 => walk_at "mem"
              case a2 => walk_at "pe"
            · have sU := (same_over L.free s0)
              refine ⟨_, rfl, t, p, M, st, rfl, AZ.same sU, hO, fun G1 x r1 hx0 X => ?_⟩
              refine ⟨_, rfl, u, p, N, su, rfl, UZ.same (Same.trans sU r1), hV, fun G2 y r2 hy0 Y => ?_⟩
              have r12 := Same.trans r1 r2
              exact ⟨x, y, p, p, M, N, st, su, _, rfl, X.same r2, hO, Y, hV, .inr (.inr ⟨rfl, 2000, k1, rfl, by decide, by decide, by omega, hg1, .zero (by omega) hw1 h01 (fun H1 s1 => errAt_same s1 (errAt_same r12 (out_err l0 hNS hE)))⟩)⟩
          have lp : Lent cs Hy := (lent_lend cs I1).same sp
          refine ⟨lp, ?_⟩
          have sou : Same I1 (unlend cs Hy) := same_over L.free sp
          have hdue := dp_unlend lp _ _ (dp_same (join_self _ _) _ _ hR)
          have hDpE := sqT_ext e1 hsd
          have eHu := e1.trans (ext_same sou)
          generalize unlend cs Hy = Hu at sou eHu hdue ⊢
          have BU := (Bd.same sE).ext eHu
          have TU := tabs_same T1 sou
          have AU := (Ad.same sE).ext eHu
          have UU := (Ud.same sE).ext eHu
          clear f10 f11 c11 L AZ UZ sLO sp hpr hR lp
          try dsimp (config := { proj := false }) only [gName, List.set_cons_succ, List.set_cons_zero]
          have hDu2 := dp_ext eHu _ _ hDp
          have hsd2 := sqT_same sou hDpE
          refine ⟨_, rfl, rfl, _, rfl, ?_⟩
          refine iteT ?_
          refine ⟨_, rfl, _, rfl, _, _, rfl, eqd_good (n := 11) (c := 20000) (d := .tuple [.str "NotSingle", .tuple []]) (goodD_succ (good_eZ ⟨by decide +kernel, by decide +kernel⟩)) hdue hDu2, fun HY sY => ⟨_, rfl, ?_⟩⟩
          refine iteF ?_
          try dsimp (config := { proj := false }) only [gName, List.set_cons_succ, List.set_cons_zero]
          refine ⟨_, rfl, rfl, _, rfl, ?_⟩
          refine iteT ?_
          refine ⟨_, rfl, qd, _, 0, _, rfl, rfl, sqT_same sY hsd2, rfl, rfl, _, rfl, ?_⟩
          refine iteF ?_
          exact ⟨_, _, _, _, _, _, _, _, _, rfl, BU.same sY, tabs_same TU sY⟩
        | unlike k1 hk1 hg1 hw1 h01 h11 hne1 =>
          try dsimp (config := { proj := false }) only [gName, List.set_cons_succ, List.set_cons_zero]
          refine ⟨tabs_same Td sE, fun f1 c1 I1 e1 nn1 T1 f10 f11 c11 => ?_⟩
          intro cs L
          have AZ := (Ad.same sE).ext e1
          have UZ := (Ud.same sE).ext e1
          have sLO := same_lend (H := I1) L.free
          refine ⟨f1, dpR K (.tuple [.str "NoRelabelling", .tuple [.int ((k1 : Int) + 1)]]), lend cs I1, rfl, fun _ _ e => e, ?_, fun pr Hy sp hpr hR => ?_⟩
          · refine lamTo_of (k := 18) (N := ["_law_m", "_law_n"]) (ps := []) (fr := ["_law_m", "_law_n"]) (vs := []) (tb := fun E => tD (spMtl CM) (tCons (tCall (spMt K C CPD CIC CTM CN CR CM) [.int 2000] E (tCons (tD (spMade C) (tCons (tVar 0) tNil)) (tCons (tD (spMade C) (tCons (tVar 1) tNil)) tNil))) tNil)) (cs := cs) (ws := [some (.ref t), some (.ref u)]) (by decide) (lam_ok (NdefX.nscope_by (by dsimp only; decide +kernel)) rfl fun A outer s H E hr => ?_) (sLO _ _ f11) (sLO _ _ c11) (fun H0 _ => .inl ⟨rfl, rfl, rfl, fun pm ctv => rfl⟩) (lent_lend cs I1) (lent_by (N := nLaw) (sc := defScope sLaw) (is := [4, 5]) (by first | decide +kernel | (dsimp only; decide +kernel)) L) fun H0 Q E s0 l0 hQ hE => ?_
            · have nm := nm_lam (CX := L2.CX P w) (NS := [("_law_m", 0), ("_law_n", 1)]) (G := ["_law_match_told", "match", "_law_made"]) (P := P) (w := w) (K := K) (mg := mg) (base := base) (N := ["_law_m", "_law_n"]) (outer := outer) (H := H) (E := E) (by dsimp only; decide +kernel) hr
              refine' n_d nm DTo (by decide) ?g (pa_cons (n_ddX nm XMd (by decide) ?g0 (takes_of rfl rfl rfl rfl) (pa_cons (n_d nm DM (by decide) ?g1 (pa_cons ?a1 pa_nil)) (pa_cons (n_d nm DM (by decide) ?g2 (pa_cons ?a2 pa_nil)) pa_nil))) pa_nil)
              case g => walk_at "mem"
              case g0 => walk_at "mem"
              case g1 => walk_at "mem"
              case a1 => walk_at "pe"
              case g2 => walk_at "mem"
              case a2 => walk_at "pe"
            · have sU := (same_over L.free s0)
              refine ⟨_, rfl, t, p, M, st, rfl, AZ.same sU, hO, fun G1 x r1 hx0 X => ?_⟩
              refine ⟨_, rfl, u, p, N, su, rfl, UZ.same (Same.trans sU r1), hV, fun G2 y r2 hy0 Y => ?_⟩
              have r12 := Same.trans r1 r2
              exact ⟨x, y, p, p, M, N, st, su, _, rfl, X.same r2, hO, Y, hV, .inr (.inr ⟨rfl, 2000, k1, rfl, by decide, by decide, by omega, hg1, .unlike (by omega) hw1 h01 h11 hne1 (fun H1 s1 => errAt_same s1 (errAt_same r12 (out_err l0 hNR hE)))⟩)⟩
          have lp : Lent cs Hy := (lent_lend cs I1).same sp
          refine ⟨lp, ?_⟩
          have sou : Same I1 (unlend cs Hy) := same_over L.free sp
          have hdue := dp_unlend lp _ _ (dp_same (join_self _ _) _ _ hR)
          have hDpE := sqT_ext e1 hsd
          have eHu := e1.trans (ext_same sou)
          generalize unlend cs Hy = Hu at sou eHu hdue ⊢
          have BU := (Bd.same sE).ext eHu
          have TU := tabs_same T1 sou
          have AU := (Ad.same sE).ext eHu
          have UU := (Ud.same sE).ext eHu
          clear f10 f11 c11 L AZ UZ sLO sp hpr hR lp
          try dsimp (config := { proj := false }) only [gName, List.set_cons_succ, List.set_cons_zero]
          have hDu2 := dp_ext eHu _ _ hDp
          have hsd2 := sqT_same sou hDpE
          refine ⟨_, rfl, rfl, _, rfl, ?_⟩
          refine iteT ?_
          refine ⟨_, rfl, _, rfl, _, _, rfl, eqd_good (n := 11) (c := 20000) (d := .tuple [.str "NoRelabelling", .tuple [.int ((k1 : Int) + 1)]]) (goodD_succ (good_eD ⟨by decide +kernel, by decide +kernel⟩ (good_s (by omega) (by omega)))) hdue hDu2, fun HY sY => ⟨_, rfl, ?_⟩⟩
          refine iteF ?_
          try dsimp (config := { proj := false }) only [gName, List.set_cons_succ, List.set_cons_zero]
          refine ⟨_, rfl, rfl, _, rfl, ?_⟩
          refine iteT ?_
          refine ⟨_, rfl, qd, _, 0, _, rfl, rfl, sqT_same sY hsd2, rfl, rfl, _, rfl, ?_⟩
          refine iteF ?_
          exact ⟨_, _, _, _, _, _, _, _, _, rfl, BU.same sY, tabs_same TU sY⟩
        | back n1 i1 hn1 hg1 hi1 he1 hb1 =>
          try dsimp (config := { proj := false }) only [gName, List.set_cons_succ, List.set_cons_zero]
          refine ⟨tabs_same Td sE, fun f1 c1 I1 e1 nn1 T1 f10 f11 c11 => ?_⟩
          intro cs L
          have AZ := (Ad.same sE).ext e1
          have UZ := (Ud.same sE).ext e1
          have sLO := same_lend (H := I1) L.free
          refine ⟨f1, dpR K (dueM p M st N su n1 i1), lend cs I1, rfl, fun _ _ e => e, ?_, fun pr Hy sp hpr hR => ?_⟩
          · refine lamTo_of (k := 18) (N := ["_law_m", "_law_n"]) (ps := []) (fr := ["_law_m", "_law_n"]) (vs := []) (tb := fun E => tD (spMtl CM) (tCons (tCall (spMt K C CPD CIC CTM CN CR CM) [.int 2000] E (tCons (tD (spMade C) (tCons (tVar 0) tNil)) (tCons (tD (spMade C) (tCons (tVar 1) tNil)) tNil))) tNil)) (cs := cs) (ws := [some (.ref t), some (.ref u)]) (by decide) (lam_ok (NdefX.nscope_by (by dsimp only; decide +kernel)) rfl fun A outer s H E hr => ?_) (sLO _ _ f11) (sLO _ _ c11) (fun H0 _ => .inl ⟨rfl, rfl, rfl, fun pm ctv => rfl⟩) (lent_lend cs I1) (lent_by (N := nLaw) (sc := defScope sLaw) (is := [4, 5]) (by first | decide +kernel | (dsimp only; decide +kernel)) L) fun H0 Q E s0 l0 hQ hE => ?_
            · have nm := nm_lam (CX := L2.CX P w) (NS := [("_law_m", 0), ("_law_n", 1)]) (G := ["_law_match_told", "match", "_law_made"]) (P := P) (w := w) (K := K) (mg := mg) (base := base) (N := ["_law_m", "_law_n"]) (outer := outer) (H := H) (E := E) (by dsimp only; decide +kernel) hr
              refine' n_d nm DTo (by decide) ?g (pa_cons (n_ddX nm XMd (by decide) ?g0 (takes_of rfl rfl rfl rfl) (pa_cons (n_d nm DM (by decide) ?g1 (pa_cons ?a1 pa_nil)) (pa_cons (n_d nm DM (by decide) ?g2 (pa_cons ?a2 pa_nil)) pa_nil))) pa_nil)
              case g => walk_at "mem"
              case g0 => walk_at "mem"
              case g1 => walk_at "mem"
              case a1 => walk_at "pe"
              case g2 => walk_at "mem"
              case a2 => walk_at "pe"
            · have sU := (same_over L.free s0)
              refine ⟨_, rfl, t, p, M, st, rfl, AZ.same sU, hO, fun G1 x r1 hx0 X => ?_⟩
              refine ⟨_, rfl, u, p, N, su, rfl, UZ.same (Same.trans sU r1), hV, fun G2 y r2 hy0 Y => ?_⟩
              have r12 := Same.trans r1 r2
              refine ⟨x, y, p, p, M, N, st, su, _, rfl, X.same r2, hO, Y, hV, .inr (.inr ⟨rfl, 2000, n1, rfl, by decide, by decide, by omega, hg1, .back i1 hi1 he1 hb1 fun H' z s1 hz0 hM => ?_⟩)⟩
              refine ⟨z, .ref x, .ref y, _, _, rfl, hM, by rw [trailP_len]; omega, fun q hq => ?_, fun H9 tt rr zs s9 ht0 hr0 ht hr hF => ?_⟩
              · unfold trailP at hq
                obtain ⟨j, _, rfl⟩ := List.mem_map.mp hq
                have c1 := (itC_ok hO.pr M st j).len
                have c2 := (itC_ok hV.pr N su j).len
                have m1 := hO.le
                have m2 := hV.le
                exact ⟨by show (itC p M st j).length ≤ 1000; omega, by show (itC p N su j).length ≤ 1000; omega⟩
              have sz := Same.trans r12 s1
              have hF0 := hF.past sz
              exact out_val l0 hQ (Same.trans sz s9) fun pr H2 sb sn hp => .tup (SqT.of hp) (.cons (.str _) (.cons (.tup (SqT.of (sn _ _ (newOf_at (Same.free sz ht0) ht))) (.cons (.lst (SqL.of (sn _ _ (newOf_at (Same.free sz hr0) hr))) (dp_prs zs _ ⟨hF0.1, fun i v q g1 g2 => by
                obtain ⟨t', a', b', ev, n1, n2, n3, f1, f2, f3⟩ := hF0.2 i v q g1 g2
                exact ⟨t', a', b', ev, sn _ _ (newOf_at n1 f1), sn _ _ (newOf_at n2 f2), sn _ _ (newOf_at n3 f3)⟩⟩)) (.cons (.int _) .nil))) .nil))
          have lp : Lent cs Hy := (lent_lend cs I1).same sp
          refine ⟨lp, ?_⟩
          have sou : Same I1 (unlend cs Hy) := same_over L.free sp
          have hdue := dp_unlend lp _ _ (dp_same (join_self _ _) _ _ hR)
          have hDpE := sqT_ext e1 hsd
          have eHu := e1.trans (ext_same sou)
          generalize unlend cs Hy = Hu at sou eHu hdue ⊢
          have BU := (Bd.same sE).ext eHu
          have TU := tabs_same T1 sou
          have AU := (Ad.same sE).ext eHu
          have UU := (Ud.same sE).ext eHu
          clear f10 f11 c11 L AZ UZ sLO sp hpr hR lp
          try dsimp (config := { proj := false }) only [gName, List.set_cons_succ, List.set_cons_zero]
          have hDu2 := dp_ext eHu _ _ hDp
          have hsd2 := sqT_same sou hDpE
          refine ⟨_, rfl, rfl, _, rfl, ?_⟩
          refine iteT ?_
          refine ⟨_, rfl, _, rfl, _, _, rfl, eqd_good (n := 11) (c := 90000000000) (d := dueM p M st N su n1 i1) (good_dueM hO hV hn1 hi1) hdue hDu2, fun HY sY => ⟨_, rfl, ?_⟩⟩
          refine iteF ?_
          try dsimp (config := { proj := false }) only [gName, List.set_cons_succ, List.set_cons_zero]
          refine ⟨_, rfl, rfl, _, rfl, ?_⟩
          refine iteT ?_
          refine ⟨_, rfl, qd, _, 0, _, rfl, rfl, sqT_same sY hsd2, rfl, rfl, _, rfl, ?_⟩
          refine iteT ?_
          refine ⟨_, rfl, u, p, N, su, rfl, UU.same sY, hV, fun G1 y r1 hy0 Y => ?_⟩
          refine ⟨_, rfl, t, p, M, st, rfl, AU.same (Same.trans sY r1), hO, fun G2 x r2 hx0 X => ?_⟩
          refine ⟨rfl, x, y, p, M, N, st, su, n1, i1, rfl, X, hO, Y.same r2, hV, by omega, hg1, hi1, he1, hb1, fun G3 z r3 hz0 hM => ?_⟩
          obtain ⟨dz, rz, yz, hz, hr, hp⟩ := id hM
          refine ⟨z, dz, _, rfl, hz, rfl, z, dz, x, y, rz, p, M, N, st, su, yz, n1, i1, rfl, hz, X.same r3, hO, (Y.same r2).same r3, hV, hr, hp, by omega, hi1, fun j hj => (hg1 j hj).2, he1, fun G4 r4 => ?_⟩
          refine ⟨_, _, rfl, eqd_good (n := 11) (c := 5) (d := .bool true) (by show 5 ≤ 5; decide) (.bl _) (.bl _), fun HZ sZ => ⟨_, rfl, ?_⟩⟩
          refine iteF ?_
          have sfin := Same.trans sY (Same.trans r1 (Same.trans r2 (Same.trans r3 (Same.trans r4 sZ))))
          exact ⟨_, _, _, _, _, _, _, _, _, rfl, BU.same sfin, tabs_same TU sfin⟩
    · rintro σ H' ⟨v2, v3, v4, v5, v6, v7, v8, v9, va, rfl, hB, hT⟩
      exact k H'
end

theorem df_mk {P : Program} {w : World} {K : PySem.W.Frag} {mg : Str → Option Value} {base : Heap} {k : Nat} {x : Str} {ps : List Str} {sp : Sp} {f : Addr} {fd : FuncData} (hm : mg x = some (.ref f)) (hk : PySem.W.keepIn K (.ref f) = true) (hb : Binds K fd ps []) (F : FnOk P w K mg base CX0 k f fd ps sp) : Df P w K mg base k x ps sp := ⟨⟨f, fd, hm, hk, hb, F⟩⟩
theorem same_all {P : Program} {w : World} {K : PySem.W.Frag} {mg : Str → Option Value} {base : Heap} {f : Addr} {fd : FuncData} (F : Fun K "_law_same" "_law_same" sSame f fd) (B : Bn mg) (bs : mg "str" = none) (hm : mg "_law_same" = some (.ref f)) (hk : PySem.W.keepIn K (.ref f) = true) (hb : Binds K fd ["_law_found", "_law_due"] []) :
    ∀ n, FnOk P w K mg base CX0 n f fd ["_law_found", "_law_due"] (spS K n)
  | 0 => ⟨fun vs H Q E h => h.elim, fun A outer s H args us vs Q E _ _ _ _ h => h.elim⟩
  | n + 1 => ok_same F B bs (df_mk hm hk hb (same_all F B bs hm hk hb n))
theorem dx_mk {P : Program} {w : World} {K : PySem.W.Frag} {mg : Str → Option Value} {base : Heap} {k : Nat} {x : Str} {ps : List Str} {sp : Sp} {f : Addr} {fd : FuncData} (hm : mg x = some (.ref f)) (hk : PySem.W.keepIn K (.ref f) = true) (hb : Binds K fd ps []) (F : FnOk P w K mg base (L2.CX P w) k f fd ps sp) : Dx P w K mg base k x ps sp := ⟨⟨f, fd, hm, hk, hb, F⟩⟩
abbrev sPrm : Stmt := inClass (top 60) 4
theorem sc_sPrm : FnScope ["self"] ["self"] (defScope sPrm) := ⟨rfl, rfl, rfl, by decide +kernel, rfl, by decide +kernel, by decide +kernel⟩
abbrev sStt : Stmt := inClass (top 60) 5
theorem sc_sStt : FnScope ["self"] ["self"] (defScope sStt) := ⟨rfl, rfl, rfl, by decide +kernel, rfl, by decide +kernel, by decide +kernel⟩
def nsL0 : List Str := ["_wall", "copied", "TurnError", "Missing", "InvalidPrime", "InvalidFigure", "InvalidSetting", "InvalidCount", "InvalidState", "InvalidStart", "InvalidText", "InvalidCounts", "PrimesDiffer", "TooMany", "NotSingle", "NoRelabelling", "UnknownState", "NothingLeft", "PRIMES", "MOST_DIALS", "is_number", "is_below", "check_prime", "check_count", "is_setting", "check_setting", "are_counts", "_check_counts", "first_counts", "next_counts"]
def nsL1 : List Str := ["turn_total", "MOST_COUNTS", "_is_trail", "_totals", "Answer", "Single", "_is_pair", "Match", "_check_pair", "_key", "match", "DIGITS", "is_numeral", "MOST_DIGITS", "_is_state", "_first_wrong", "_pairs_behind", "_product_states", "_state_text", "_read_number", "_halves", "_read_state", "Turner", "_law_bag", "_law_pull", "_law_of", "_law_mixed", "_law_same", "_law_got", "_law_prime"]
def nsL2 : List Str := ["_law_figures", "_law_plain", "_law_made", "_law_undone", "_law_joined", "_law_odometer", "_law_single", "_law_first", "_law_later", "_law_sum", "_law_doubled", "_law_bent", "_law_match_told", "law"]
def nsL : List Str := nsL0 ++ nsL1 ++ nsL2
def fsL0 : List FdO := [⟨fun K => He.ga K "is_number", "is_number", "is_number", defArgs sNum, defBody sNum, defScope sNum, [], []⟩,
  ⟨fun K => He.ga K "is_below", "is_below", "is_below", defArgs sBel, defBody sBel, defScope sBel, [], []⟩,
  ⟨fun K => He.ga K "check_prime", "check_prime", "check_prime", defArgs sChP, defBody sChP, defScope sChP, [], []⟩,
  ⟨fun K => He.ga K "check_count", "check_count", "check_count", defArgs sCCt, defBody sCCt, defScope sCCt, [], []⟩,
  ⟨fun K => He.ga K "are_counts", "are_counts", "are_counts", defArgs sAre, defBody sAre, defScope sAre, [], []⟩,
  ⟨fun K => He.ga K "_check_counts", "_check_counts", "_check_counts", defArgs sChC, defBody sChC, defScope sChC, [], []⟩,
  ⟨fun K => He.ga K "first_counts", "first_counts", "first_counts", defArgs sFC, defBody sFC, defScope sFC, [], []⟩,
  ⟨fun K => He.ga K "next_counts", "next_counts", "next_counts", defArgs sNC, defBody sNC, defScope sNC, [], []⟩,
  ⟨fun K => He.ga K "turn_total", "turn_total", "turn_total", defArgs sTT, defBody sTT, defScope sTT, [], []⟩,
  ⟨fun K => He.ga K "_is_trail", "_is_trail", "_is_trail", defArgs sTrl, defBody sTrl, defScope sTrl, [], []⟩,
  ⟨fun K => He.ga K "_totals", "_totals", "_totals", defArgs sTls, defBody sTls, defScope sTls, [], []⟩,
  ⟨fun K => He.ga K "_is_pair", "_is_pair", "_is_pair", defArgs sIpr, defBody sIpr, defScope sIpr, [], []⟩,
  ⟨fun K => He.ga K "_key", "_key", "_key", defArgs sKy, defBody sKy, defScope sKy, [], []⟩,
  ⟨fun K => He.ga K "_check_pair", "_check_pair", "_check_pair", defArgs sCkp, defBody sCkp, defScope sCkp, [], []⟩,
  ⟨fun K => He.ga K "copied", "copied", "copied", defArgs sCp, defBody sCp, defScope sCp, [], []⟩,
  ⟨fun K => He.ga K "_is_state", "_is_state", "_is_state", defArgs sIsSt, defBody sIsSt, defScope sIsSt, [], []⟩,
  ⟨fun K => He.ga K "_first_wrong", "_first_wrong", "_first_wrong", defArgs sFirst, defBody sFirst, defScope sFirst, [], []⟩,
  ⟨fun K => He.ga K "_law_bag", "_law_bag", "_law_bag", defArgs sBag, defBody sBag, defScope sBag, [], []⟩,
  ⟨fun K => He.ga K "_law_pull", "_law_pull", "_law_pull", defArgs sPull, defBody sPull, defScope sPull, [], []⟩,
  ⟨fun K => He.ga K "_law_of", "_law_of", "_law_of", defArgs sOf, defBody sOf, defScope sOf, [], []⟩]
def fsL1 : List FdO := [⟨fun K => He.ga K "_law_mixed", "_law_mixed", "_law_mixed", defArgs sMxd, defBody sMxd, defScope sMxd, [], []⟩,
  ⟨fun K => He.ga K "_law_same", "_law_same", "_law_same", defArgs sSame, defBody sSame, defScope sSame, [], []⟩,
  ⟨fun K => He.ga K "_law_got", "_law_got", "_law_got", defArgs sGot, defBody sGot, defScope sGot, [], []⟩,
  ⟨fun K => He.ga K "_law_prime", "_law_prime", "_law_prime", defArgs sPrime, defBody sPrime, defScope sPrime, [], []⟩,
  ⟨fun K => He.ga K "_law_figures", "_law_figures", "_law_figures", defArgs sFigs, defBody sFigs, defScope sFigs, [], []⟩,
  ⟨fun K => He.ga K "_law_plain", "_law_plain", "_law_plain", defArgs sPlain, defBody sPlain, defScope sPlain, [], []⟩,
  ⟨fun K => He.ga K "_law_made", "_law_made", "_law_made", defArgs sMade, defBody sMade, defScope sMade, [], []⟩,
  ⟨fun K => He.ga K "_law_undone", "_law_undone", "_law_undone", defArgs sLUnd, defBody sLUnd, defScope sLUnd, [], []⟩,
  ⟨fun K => He.ga K "_law_joined", "_law_joined", "_law_joined", defArgs sJoin, defBody sJoin, defScope sJoin, [], []⟩,
  ⟨fun K => He.ga K "_law_odometer", "_law_odometer", "_law_odometer", defArgs sOd, defBody sOd, defScope sOd, [], []⟩,
  ⟨fun K => He.ga K "_law_single", "_law_single", "_law_single", defArgs sSg, defBody sSg, defScope sSg, [], []⟩,
  ⟨fun K => He.ga K "_law_first", "_law_first", "_law_first", defArgs sLF, defBody sLF, defScope sLF, [], []⟩,
  ⟨fun K => He.ga K "_law_later", "_law_later", "_law_later", defArgs sLL, defBody sLL, defScope sLL, [], []⟩,
  ⟨fun K => He.ga K "_law_sum", "_law_sum", "_law_sum", defArgs sLS, defBody sLS, defScope sLS, [], []⟩,
  ⟨fun K => He.ga K "_law_doubled", "_law_doubled", "_law_doubled", defArgs sDb, defBody sDb, defScope sDb, [], []⟩,
  ⟨fun K => He.ga K "_law_bent", "_law_bent", "_law_bent", defArgs sBt, defBody sBt, defScope sBt, [], []⟩,
  ⟨fun K => He.ga K "_law_match_told", "_law_match_told", "_law_match_told", defArgs sMtl, defBody sMtl, defScope sMtl, [], []⟩,
  ⟨fun K => He.ga K "law", "law", "law", defArgs sLaw, defBody sLaw, defScope sLaw, [], []⟩,
  ⟨fun K => (He.ma K (He.ga K "Turner") "states"), "states", "Turner.states", defArgs sStates, defBody sStates, defScope sStates, [], []⟩,
  ⟨fun K => (He.ma K (He.ga K "Turner") "__len__"), "__len__", "Turner.__len__", defArgs sLen, defBody sLen, defScope sLen, [], []⟩]
def fsL2 : List FdO := [⟨fun K => (paA K "property" (He.ma K (He.ga K "Turner") "prime")), "prime", "Turner.prime", defArgs sPrm, defBody sPrm, defScope sPrm, [], []⟩,
  ⟨fun K => (paA K "property" (He.ma K (He.ga K "Turner") "start")), "start", "Turner.start", defArgs sStt, defBody sStt, defScope sStt, [], []⟩,
  ⟨fun K => (He.ma K (He.ga K "Turner") "__init__"), "__init__", "Turner.__init__", defArgs sInit, defBody sInit, defScope sInit, [], [("start", .int 0)]⟩,
  ⟨fun K => (He.ma K (He.ga K "Answer") "__init__"), "__init__", "Answer.__init__", defArgs sAi, defBody sAi, defScope sAi, [], []⟩,
  ⟨fun K => (He.ma K (He.ga K "Single") "holds"), "holds", "Single.holds", defArgs sHoS, defBody sHoS, defScope sHoS, [], []⟩,
  ⟨fun K => (He.ma K (He.ga K "Single") "__init__"), "__init__", "Single.__init__", defArgs sNi, defBody sNi, defScope sNi, ["__class__"], []⟩,
  ⟨fun K => (He.ma K (He.ga K "Match") "holds"), "holds", "Match.holds", defArgs sMh, defBody sMh, defScope sMh, [], []⟩,
  ⟨fun K => (paA K "property" (He.ma K (He.ga K "Match") "pairs")), "pairs", "Match.pairs", defArgs sMp, defBody sMp, defScope sMp, [], []⟩,
  ⟨fun K => (paA K "property" (He.ma K (He.ga K "Match") "back")), "back", "Match.back", defArgs sMb, defBody sMb, defScope sMb, [], []⟩,
  ⟨fun K => (He.ma K (He.ga K "Match") "__init__"), "__init__", "Match.__init__", defArgs sMi, defBody sMi, defScope sMi, [], []⟩,
  ⟨fun K => He.ga K "match", "match", "match", defArgs sMt, defBody sMt, defScope sMt, [], [("most", .int 2000)]⟩,
  ⟨fun K => (He.ma K (He.ga K "InvalidCount") "__init__"), "__init__", "InvalidCount.__init__", defArgs sE_InvalidCount, defBody sE_InvalidCount, defScope sE_InvalidCount, ["__class__"], []⟩,
  ⟨fun K => (He.ma K (He.ga K "TooMany") "__init__"), "__init__", "TooMany.__init__", defArgs sE_TooMany, defBody sE_TooMany, defScope sE_TooMany, ["__class__"], []⟩,
  ⟨fun K => (He.ma K (He.ga K "NoRelabelling") "__init__"), "__init__", "NoRelabelling.__init__", defArgs sE_NoRelabelling, defBody sE_NoRelabelling, defScope sE_NoRelabelling, ["__class__"], []⟩,
  ⟨fun K => (He.ma K (He.ga K "PrimesDiffer") "__init__"), "__init__", "PrimesDiffer.__init__", defArgs sE_PrimesDiffer, defBody sE_PrimesDiffer, defScope sE_PrimesDiffer, ["__class__"], []⟩,
  ⟨fun K => (He.ma K (He.ga K "NotSingle") "__init__"), "__init__", "NotSingle.__init__", defArgs sE_NotSingle, defBody sE_NotSingle, defScope sE_NotSingle, ["__class__"], []⟩]
def fsL : List FdO := fsL0 ++ (fsL1 ++ (fsL2))
def exL0 (K : Fg) : List Bool := [decide (PySem.W.nsIn K mainGlobals "is_number" = some (some (.ref (He.ga K "is_number")))),
  decide (PySem.W.nsIn K mainGlobals "is_below" = some (some (.ref (He.ga K "is_below")))),
  decide (PySem.W.nsIn K mainGlobals "check_prime" = some (some (.ref (He.ga K "check_prime")))),
  decide (PySem.W.nsIn K mainGlobals "check_count" = some (some (.ref (He.ga K "check_count")))),
  decide (PySem.W.nsIn K mainGlobals "are_counts" = some (some (.ref (He.ga K "are_counts")))),
  decide (PySem.W.nsIn K mainGlobals "_check_counts" = some (some (.ref (He.ga K "_check_counts")))),
  decide (PySem.W.nsIn K mainGlobals "first_counts" = some (some (.ref (He.ga K "first_counts")))),
  decide (PySem.W.nsIn K mainGlobals "next_counts" = some (some (.ref (He.ga K "next_counts")))),
  decide (PySem.W.nsIn K mainGlobals "turn_total" = some (some (.ref (He.ga K "turn_total")))),
  decide (PySem.W.nsIn K mainGlobals "_is_trail" = some (some (.ref (He.ga K "_is_trail")))),
  decide (PySem.W.nsIn K mainGlobals "_totals" = some (some (.ref (He.ga K "_totals")))),
  decide (PySem.W.nsIn K mainGlobals "_is_pair" = some (some (.ref (He.ga K "_is_pair")))),
  decide (PySem.W.nsIn K mainGlobals "_key" = some (some (.ref (He.ga K "_key")))),
  decide (PySem.W.nsIn K mainGlobals "_check_pair" = some (some (.ref (He.ga K "_check_pair")))),
  decide (PySem.W.nsIn K mainGlobals "copied" = some (some (.ref (He.ga K "copied")))),
  decide (PySem.W.nsIn K mainGlobals "_is_state" = some (some (.ref (He.ga K "_is_state")))),
  decide (PySem.W.nsIn K mainGlobals "_first_wrong" = some (some (.ref (He.ga K "_first_wrong")))),
  decide (PySem.W.nsIn K mainGlobals "_law_bag" = some (some (.ref (He.ga K "_law_bag")))),
  decide (PySem.W.nsIn K mainGlobals "_law_pull" = some (some (.ref (He.ga K "_law_pull")))),
  decide (PySem.W.nsIn K mainGlobals "_law_of" = some (some (.ref (He.ga K "_law_of")))),
  decide (PySem.W.nsIn K mainGlobals "_law_mixed" = some (some (.ref (He.ga K "_law_mixed")))),
  decide (PySem.W.nsIn K mainGlobals "_law_same" = some (some (.ref (He.ga K "_law_same")))),
  decide (PySem.W.nsIn K mainGlobals "_law_got" = some (some (.ref (He.ga K "_law_got")))),
  decide (PySem.W.nsIn K mainGlobals "_law_prime" = some (some (.ref (He.ga K "_law_prime")))),
  decide (PySem.W.nsIn K mainGlobals "_law_figures" = some (some (.ref (He.ga K "_law_figures"))))]
def exL1 (K : Fg) : List Bool := [decide (PySem.W.nsIn K mainGlobals "_law_plain" = some (some (.ref (He.ga K "_law_plain")))),
  decide (PySem.W.nsIn K mainGlobals "_law_made" = some (some (.ref (He.ga K "_law_made")))),
  decide (PySem.W.nsIn K mainGlobals "_law_undone" = some (some (.ref (He.ga K "_law_undone")))),
  decide (PySem.W.nsIn K mainGlobals "_law_joined" = some (some (.ref (He.ga K "_law_joined")))),
  decide (PySem.W.nsIn K mainGlobals "_law_odometer" = some (some (.ref (He.ga K "_law_odometer")))),
  decide (PySem.W.nsIn K mainGlobals "_law_single" = some (some (.ref (He.ga K "_law_single")))),
  decide (PySem.W.nsIn K mainGlobals "_law_first" = some (some (.ref (He.ga K "_law_first")))),
  decide (PySem.W.nsIn K mainGlobals "_law_later" = some (some (.ref (He.ga K "_law_later")))),
  decide (PySem.W.nsIn K mainGlobals "_law_sum" = some (some (.ref (He.ga K "_law_sum")))),
  decide (PySem.W.nsIn K mainGlobals "_law_doubled" = some (some (.ref (He.ga K "_law_doubled")))),
  decide (PySem.W.nsIn K mainGlobals "_law_bent" = some (some (.ref (He.ga K "_law_bent")))),
  decide (PySem.W.nsIn K mainGlobals "_law_match_told" = some (some (.ref (He.ga K "_law_match_told")))),
  decide (PySem.W.nsIn K mainGlobals "law" = some (some (.ref (He.ga K "law")))),
  decide (PySem.W.nsIn K mainGlobals "len" = some none),
  decide (PySem.W.nsIn K mainGlobals "int" = some none),
  decide (PySem.W.nsIn K mainGlobals "abs" = some none),
  decide (PySem.W.nsIn K mainGlobals "list" = some none),
  decide (PySem.W.nsIn K mainGlobals "tuple" = some none),
  decide (PySem.W.nsIn K mainGlobals "range" = some none),
  decide (PySem.W.nsIn K mainGlobals "isinstance" = some none),
  decide (PySem.W.nsIn K mainGlobals "all" = some none),
  decide (PySem.W.nsIn K mainGlobals "zip" = some none),
  decide (PySem.W.nsIn K mainGlobals "enumerate" = some none),
  decide (PySem.W.nsIn K mainGlobals "bool" = some none),
  decide (PySem.W.nsIn K mainGlobals "str" = some none)]
def exL2 (K : Fg) : List Bool := [decide (PySem.W.nsIn K mainGlobals "super" = some none),
  decide (PySem.W.nsIn K mainGlobals "sum" = some none),
  intB K "MOST_DIALS" 200,
  tup4 K (He.ga K "PRIMES") 2 3 5 7,
  decide (PySem.W.nsIn K mainGlobals "PRIMES" = some (some (.ref (He.ga K "PRIMES")))),
  intB K "MOST_COUNTS" 5000,
  decide (PySem.W.nsIn K mainGlobals "Turner" = some (some (.ref (He.ga K "Turner")))),
  decide (PySem.W.findIn K (.ref (He.ga K "Turner")) "states" = some (some (.ref (He.ma K (He.ga K "Turner") "states")))),
  PySem.W.isFn K (.ref (He.ma K (He.ga K "Turner") "states")),
  decide (PySem.W.findIn K (.ref (He.ga K "Turner")) "__len__" = some (some (.ref (He.ma K (He.ga K "Turner") "__len__")))),
  PySem.W.isFn K (.ref (He.ma K (He.ga K "Turner") "__len__")),
  decide (PySem.W.findIn K (.ref (He.ga K "Turner")) "prime" = some (some (.ref (He.ma K (He.ga K "Turner") "prime")))),
  decide (PySem.W.specialIn K (.ref (He.ma K (He.ga K "Turner") "prime")) "__get__" = some (some (.builtin "property.__get__"))),
  decide (PySem.W.takesIn K (.ref (He.ma K (He.ga K "Turner") "prime")) = some true),
  recB K "property" (He.ma K (He.ga K "Turner") "prime"),
  decide (PySem.W.findIn K (.ref (He.ga K "Turner")) "start" = some (some (.ref (He.ma K (He.ga K "Turner") "start")))),
  decide (PySem.W.specialIn K (.ref (He.ma K (He.ga K "Turner") "start")) "__get__" = some (some (.builtin "property.__get__"))),
  decide (PySem.W.takesIn K (.ref (He.ma K (He.ga K "Turner") "start")) = some true),
  recB K "property" (He.ma K (He.ga K "Turner") "start"),
  decide (PySem.W.findIn K (.ref (He.ga K "Turner")) "__init__" = some (some (.ref (He.ma K (He.ga K "Turner") "__init__")))),
  PySem.W.isFn K (.ref (He.ma K (He.ga K "Turner") "__init__")),
  PySem.W.plainGet K (He.ga K "Turner") Str.empty,
  PySem.W.hasDictIn K (He.ga K "Turner"),
  PySem.W.plainOver K (He.ga K "Turner"),
  decide (PySem.W.findIn K (.ref (He.ga K "Turner")) "__setattr__" = some (some (.builtin "object.__setattr__")))]
def exL3 (K : Fg) : List Bool := [decide (PySem.W.findIn K (.ref (He.ga K "Turner")) "_prime" = some none),
  decide (PySem.W.findIn K (.ref (He.ga K "Turner")) "_states" = some none),
  decide (PySem.W.findIn K (.ref (He.ga K "Turner")) "_start" = some none),
  PySem.W.readsIn K (He.ga K "Turner") (.type "type"),
  decide (PySem.W.specialIn K (.ref (He.ga K "Turner")) "__getattribute__" = some (some (.builtin "type.__getattribute__"))),
  conB K (He.ga K "Turner") "MOST" 240,
  PySem.W.makesIn K (He.ga K "Turner"),
  PySem.W.keepIn K (.ref (He.ga K "Turner")),
  decide (PySem.W.nsIn K mainGlobals "Answer" = some (some (.ref (He.ga K "Answer")))),
  PySem.W.makesIn K (He.ga K "Answer"),
  decide (PySem.W.findIn K (.ref (He.ga K "Answer")) "__init__" = some (some (.ref (He.ma K (He.ga K "Answer") "__init__")))),
  PySem.W.isFn K (.ref (He.ma K (He.ga K "Answer") "__init__")),
  PySem.W.keepIn K (.ref (He.ga K "Answer")),
  PySem.W.plainGet K (He.ga K "Answer") Str.empty,
  PySem.W.hasDictIn K (He.ga K "Answer"),
  PySem.W.plainOver K (He.ga K "Answer"),
  decide (PySem.W.findIn K (.ref (He.ga K "Answer")) "__setattr__" = some (some (.builtin "object.__setattr__"))),
  decide (PySem.W.nsIn K mainGlobals "Single" = some (some (.ref (He.ga K "Single")))),
  decide (PySem.W.findIn K (.ref (He.ga K "Single")) "holds" = some (some (.ref (He.ma K (He.ga K "Single") "holds")))),
  PySem.W.isFn K (.ref (He.ma K (He.ga K "Single") "holds")),
  cdB K (He.ma K (He.ga K "Single") "__init__") ("/claim/cut.py" : Str),
  cellB K (ccA K (He.ma K (He.ga K "Single") "__init__")) (He.ga K "Single"),
  PySem.W.isClsIn K (He.ga K "Single"),
  decide (PySem.W.mroIn K (He.ga K "Single") (.ref (He.ga K "Single")) = some true),
  supB K (He.ga K "Single") (He.ga K "Answer")]
def exL4 (K : Fg) : List Bool := [PySem.W.fnIn K (He.ma K (He.ga K "Answer") "__init__"),
  decide (PySem.W.nsIn K cStatics "thirdparty.any" = some none),
  PySem.W.makesIn K (He.ga K "Single"),
  decide (PySem.W.findIn K (.ref (He.ga K "Single")) "__init__" = some (some (.ref (He.ma K (He.ga K "Single") "__init__")))),
  PySem.W.isFn K (.ref (He.ma K (He.ga K "Single") "__init__")),
  PySem.W.keepIn K (.ref (He.ga K "Single")),
  PySem.W.plainGet K (He.ga K "Single") Str.empty,
  PySem.W.hasDictIn K (He.ga K "Single"),
  PySem.W.plainOver K (He.ga K "Single"),
  decide (PySem.W.findIn K (.ref (He.ga K "Single")) "__setattr__" = some (some (.builtin "object.__setattr__"))),
  decide (PySem.W.findIn K (.ref (He.ga K "Single")) "_turner" = some none),
  decide (PySem.W.findIn K (.ref (He.ga K "Single")) "_counts" = some none),
  decide (PySem.W.findIn K (.ref (He.ga K "Single")) "_back" = some none),
  decide (PySem.W.nsIn K mainGlobals "Match" = some (some (.ref (He.ga K "Match")))),
  decide (PySem.W.findIn K (.ref (He.ga K "Match")) "holds" = some (some (.ref (He.ma K (He.ga K "Match") "holds")))),
  PySem.W.isFn K (.ref (He.ma K (He.ga K "Match") "holds")),
  decide (PySem.W.findIn K (.ref (He.ga K "Match")) "pairs" = some (some (.ref (He.ma K (He.ga K "Match") "pairs")))),
  decide (PySem.W.specialIn K (.ref (He.ma K (He.ga K "Match") "pairs")) "__get__" = some (some (.builtin "property.__get__"))),
  decide (PySem.W.takesIn K (.ref (He.ma K (He.ga K "Match") "pairs")) = some true),
  recB K "property" (He.ma K (He.ga K "Match") "pairs"),
  decide (PySem.W.findIn K (.ref (He.ga K "Match")) "back" = some (some (.ref (He.ma K (He.ga K "Match") "back")))),
  decide (PySem.W.specialIn K (.ref (He.ma K (He.ga K "Match") "back")) "__get__" = some (some (.builtin "property.__get__"))),
  decide (PySem.W.takesIn K (.ref (He.ma K (He.ga K "Match") "back")) = some true),
  recB K "property" (He.ma K (He.ga K "Match") "back"),
  PySem.W.makesIn K (He.ga K "Match")]
def exL5 (K : Fg) : List Bool := [decide (PySem.W.findIn K (.ref (He.ga K "Match")) "__init__" = some (some (.ref (He.ma K (He.ga K "Match") "__init__")))),
  PySem.W.isFn K (.ref (He.ma K (He.ga K "Match") "__init__")),
  PySem.W.keepIn K (.ref (He.ga K "Match")),
  PySem.W.plainGet K (He.ga K "Match") Str.empty,
  PySem.W.hasDictIn K (He.ga K "Match"),
  PySem.W.plainOver K (He.ga K "Match"),
  decide (PySem.W.findIn K (.ref (He.ga K "Match")) "__setattr__" = some (some (.builtin "object.__setattr__"))),
  decide (PySem.W.findIn K (.ref (He.ga K "Match")) "_one" = some none),
  decide (PySem.W.findIn K (.ref (He.ga K "Match")) "_other" = some none),
  decide (PySem.W.findIn K (.ref (He.ga K "Match")) "_pairs" = some none),
  decide (PySem.W.findIn K (.ref (He.ga K "Match")) "_back" = some none),
  decide (PySem.W.nsIn K mainGlobals "match" = some (some (.ref (He.ga K "match")))),
  decide (PySem.W.nsIn K mainGlobals "TurnError" = some (some (.ref (He.ga K "TurnError")))),
  decide (PySem.W.nsIn K mainGlobals "Missing" = some (some (.ref (He.ga K "Missing")))),
  decide (PySem.W.nsIn K mainGlobals "NothingLeft" = some (some (.ref (He.ga K "NothingLeft")))),
  cdB K (He.ma K (He.ga K "InvalidCount") "__init__") ("/claim/cut.py" : Str),
  decide (PySem.W.nsIn K mainGlobals "InvalidCount" = some (some (.ref (He.ga K "InvalidCount")))),
  cellB K (ccA K (He.ma K (He.ga K "InvalidCount") "__init__")) (He.ga K "InvalidCount"),
  decide (PySem.W.ks_superIn K (He.ga K "InvalidCount") (He.ga K "InvalidCount") "__init__" = some (some (.builtin "ValueError.__init__"))),
  oexB K (He.ga K "InvalidCount"),
  errB K (He.ga K "InvalidCount") "InvalidCount",
  decide (PySem.W.findIn K (.ref (He.ga K "InvalidCount")) "given" = some none),
  decide (PySem.W.findIn K (.ref (He.ga K "InvalidCount")) "code" = some none),
  decide (PySem.W.findIn K (.ref (He.ga K "InvalidCount")) "details" = some none),
  excB K (He.ga K "InvalidCount")]
def exL6 (K : Fg) : List Bool := [decide (PySem.W.exmAny K (.ref (He.ga K "InvalidCount")) [.ref (He.ga K "TurnError"), .ref (He.ga K "Missing"), .ref (He.ga K "NothingLeft")] = some true),
  decide (PySem.W.findIn K (.ref (He.ga K "InvalidCount")) "__init__" = some (some (.ref (He.ma K (He.ga K "InvalidCount") "__init__")))),
  decide (PySem.W.typeIn K (.ref (He.ma K (He.ga K "InvalidCount") "__init__")) = some (.type "function")),
  cdB K (He.ma K (He.ga K "TooMany") "__init__") ("/claim/cut.py" : Str),
  decide (PySem.W.nsIn K mainGlobals "TooMany" = some (some (.ref (He.ga K "TooMany")))),
  cellB K (ccA K (He.ma K (He.ga K "TooMany") "__init__")) (He.ga K "TooMany"),
  decide (PySem.W.ks_superIn K (He.ga K "TooMany") (He.ga K "TooMany") "__init__" = some (some (.builtin "ValueError.__init__"))),
  oexB K (He.ga K "TooMany"),
  errB K (He.ga K "TooMany") "TooMany",
  decide (PySem.W.findIn K (.ref (He.ga K "TooMany")) "most" = some none),
  decide (PySem.W.findIn K (.ref (He.ga K "TooMany")) "code" = some none),
  decide (PySem.W.findIn K (.ref (He.ga K "TooMany")) "details" = some none),
  excB K (He.ga K "TooMany"),
  decide (PySem.W.exmAny K (.ref (He.ga K "TooMany")) [.ref (He.ga K "TurnError"), .ref (He.ga K "Missing"), .ref (He.ga K "NothingLeft")] = some true),
  decide (PySem.W.findIn K (.ref (He.ga K "TooMany")) "__init__" = some (some (.ref (He.ma K (He.ga K "TooMany") "__init__")))),
  decide (PySem.W.typeIn K (.ref (He.ma K (He.ga K "TooMany") "__init__")) = some (.type "function")),
  cdB K (He.ma K (He.ga K "NoRelabelling") "__init__") ("/claim/cut.py" : Str),
  decide (PySem.W.nsIn K mainGlobals "NoRelabelling" = some (some (.ref (He.ga K "NoRelabelling")))),
  cellB K (ccA K (He.ma K (He.ga K "NoRelabelling") "__init__")) (He.ga K "NoRelabelling"),
  decide (PySem.W.ks_superIn K (He.ga K "NoRelabelling") (He.ga K "NoRelabelling") "__init__" = some (some (.builtin "ValueError.__init__"))),
  oexB K (He.ga K "NoRelabelling"),
  errB K (He.ga K "NoRelabelling") "NoRelabelling",
  decide (PySem.W.findIn K (.ref (He.ga K "NoRelabelling")) "at" = some none),
  decide (PySem.W.findIn K (.ref (He.ga K "NoRelabelling")) "code" = some none),
  decide (PySem.W.findIn K (.ref (He.ga K "NoRelabelling")) "details" = some none)]
def exL7 (K : Fg) : List Bool := [excB K (He.ga K "NoRelabelling"),
  decide (PySem.W.exmAny K (.ref (He.ga K "NoRelabelling")) [.ref (He.ga K "TurnError"), .ref (He.ga K "Missing"), .ref (He.ga K "NothingLeft")] = some true),
  decide (PySem.W.findIn K (.ref (He.ga K "NoRelabelling")) "__init__" = some (some (.ref (He.ma K (He.ga K "NoRelabelling") "__init__")))),
  decide (PySem.W.typeIn K (.ref (He.ma K (He.ga K "NoRelabelling") "__init__")) = some (.type "function")),
  cdB K (He.ma K (He.ga K "PrimesDiffer") "__init__") ("/claim/cut.py" : Str),
  decide (PySem.W.nsIn K mainGlobals "PrimesDiffer" = some (some (.ref (He.ga K "PrimesDiffer")))),
  cellB K (ccA K (He.ma K (He.ga K "PrimesDiffer") "__init__")) (He.ga K "PrimesDiffer"),
  decide (PySem.W.ks_superIn K (He.ga K "PrimesDiffer") (He.ga K "PrimesDiffer") "__init__" = some (some (.builtin "ValueError.__init__"))),
  oexB K (He.ga K "PrimesDiffer"),
  errB K (He.ga K "PrimesDiffer") "PrimesDiffer",
  decide (PySem.W.findIn K (.ref (He.ga K "PrimesDiffer")) "code" = some none),
  decide (PySem.W.findIn K (.ref (He.ga K "PrimesDiffer")) "details" = some none),
  excB K (He.ga K "PrimesDiffer"),
  decide (PySem.W.exmAny K (.ref (He.ga K "PrimesDiffer")) [.ref (He.ga K "TurnError"), .ref (He.ga K "Missing"), .ref (He.ga K "NothingLeft")] = some true),
  decide (PySem.W.findIn K (.ref (He.ga K "PrimesDiffer")) "__init__" = some (some (.ref (He.ma K (He.ga K "PrimesDiffer") "__init__")))),
  decide (PySem.W.typeIn K (.ref (He.ma K (He.ga K "PrimesDiffer") "__init__")) = some (.type "function")),
  cdB K (He.ma K (He.ga K "NotSingle") "__init__") ("/claim/cut.py" : Str),
  decide (PySem.W.nsIn K mainGlobals "NotSingle" = some (some (.ref (He.ga K "NotSingle")))),
  cellB K (ccA K (He.ma K (He.ga K "NotSingle") "__init__")) (He.ga K "NotSingle"),
  decide (PySem.W.ks_superIn K (He.ga K "NotSingle") (He.ga K "NotSingle") "__init__" = some (some (.builtin "ValueError.__init__"))),
  oexB K (He.ga K "NotSingle"),
  errB K (He.ga K "NotSingle") "NotSingle",
  decide (PySem.W.findIn K (.ref (He.ga K "NotSingle")) "code" = some none),
  decide (PySem.W.findIn K (.ref (He.ga K "NotSingle")) "details" = some none),
  excB K (He.ga K "NotSingle")]
def exL8 (K : Fg) : List Bool := [decide (PySem.W.exmAny K (.ref (He.ga K "NotSingle")) [.ref (He.ga K "TurnError"), .ref (He.ga K "Missing"), .ref (He.ga K "NothingLeft")] = some true),
  decide (PySem.W.findIn K (.ref (He.ga K "NotSingle")) "__init__" = some (some (.ref (He.ma K (He.ga K "NotSingle") "__init__")))),
  decide (PySem.W.typeIn K (.ref (He.ma K (He.ga K "NotSingle") "__init__")) = some (.type "function"))]
def exL (K : Fg) : List Bool := exL0 K ++ (exL1 K ++ (exL2 K ++ (exL3 K ++ (exL4 K ++ (exL5 K ++ (exL6 K ++ (exL7 K ++ (exL8 K))))))))
def dsL : List Str := ["law"]
theorem all_t {l : PySem.W.OpenLaw} {w : World} {K : PySem.W.Frag} {h : Heap} {mg : Str → Option Value} {fa : Addr} (hfl : l.prog.main.file = ("/claim/cut.py" : Str)) (hsu : (l.prog.main.scope.names.lookup ("super" : Str)).isSome = false) (Y : SaysQ dsL fsL exL h K) (G : h.Ns mainGlobals mg) (hfa : mg "law" = some (.ref fa)) : LamX.LawAtS l w K CX0 24 63 "_law_script" mg fa h := by
  have X := Y.kin
  have c := Y.sy
  obtain ⟨oc0, od0, sl0, kV0, dc0, pm0, an0, cd0, ct0, l0, c0, k0⟩ := says_lk c 0 rfl
  have F0 := fun_mk (st := sNum) l0 c0 k0
  have b0 := F0.binds (ps := ["value"]) fun _ _ _ _ _ _ us hl => match us, hl with | [_], _ => rfl
  have g0 := PySem.W.mg_of X G (show PySem.W.nsIn K mainGlobals "is_number" = some (some (.ref (He.ga K "is_number"))) from of_decide_eq_true (says_ex c 0 rfl))
  obtain ⟨oc1, od1, sl1, kV1, dc1, pm1, an1, cd1, ct1, l1, c1, k1⟩ := says_lk c 1 rfl
  have F1 := fun_mk (st := sBel) l1 c1 k1
  have b1 := F1.binds (ps := ["value", "bound"]) fun _ _ _ _ _ _ us hl => match us, hl with | [_, _], _ => rfl
  have g1 := PySem.W.mg_of X G (show PySem.W.nsIn K mainGlobals "is_below" = some (some (.ref (He.ga K "is_below"))) from of_decide_eq_true (says_ex c 1 rfl))
  obtain ⟨oc2, od2, sl2, kV2, dc2, pm2, an2, cd2, ct2, l2, c2, k2⟩ := says_lk c 2 rfl
  have F2 := fun_mk (st := sChP) l2 c2 k2
  have b2 := F2.binds (ps := ["prime"]) fun _ _ _ _ _ _ us hl => match us, hl with | [_], _ => rfl
  have g2 := PySem.W.mg_of X G (show PySem.W.nsIn K mainGlobals "check_prime" = some (some (.ref (He.ga K "check_prime"))) from of_decide_eq_true (says_ex c 2 rfl))
  obtain ⟨oc3, od3, sl3, kV3, dc3, pm3, an3, cd3, ct3, l3, c3, k3⟩ := says_lk c 3 rfl
  have F3 := fun_mk (st := sCCt) l3 c3 k3
  have b3 := F3.binds (ps := ["value", "least", "most"]) fun _ _ _ _ _ _ us hl => match us, hl with | [_, _, _], _ => rfl
  have g3 := PySem.W.mg_of X G (show PySem.W.nsIn K mainGlobals "check_count" = some (some (.ref (He.ga K "check_count"))) from of_decide_eq_true (says_ex c 3 rfl))
  obtain ⟨oc4, od4, sl4, kV4, dc4, pm4, an4, cd4, ct4, l4, c4, k4⟩ := says_lk c 4 rfl
  have F4 := fun_mk (st := sAre) l4 c4 k4
  have b4 := F4.binds (ps := ["turner", "value"]) fun _ _ _ _ _ _ us hl => match us, hl with | [_, _], _ => rfl
  have g4 := PySem.W.mg_of X G (show PySem.W.nsIn K mainGlobals "are_counts" = some (some (.ref (He.ga K "are_counts"))) from of_decide_eq_true (says_ex c 4 rfl))
  obtain ⟨oc5, od5, sl5, kV5, dc5, pm5, an5, cd5, ct5, l5, c5, k5⟩ := says_lk c 5 rfl
  have F5 := fun_mk (st := sChC) l5 c5 k5
  have b5 := F5.binds (ps := ["turner", "counts"]) fun _ _ _ _ _ _ us hl => match us, hl with | [_, _], _ => rfl
  have g5 := PySem.W.mg_of X G (show PySem.W.nsIn K mainGlobals "_check_counts" = some (some (.ref (He.ga K "_check_counts"))) from of_decide_eq_true (says_ex c 5 rfl))
  obtain ⟨oc6, od6, sl6, kV6, dc6, pm6, an6, cd6, ct6, l6, c6, k6⟩ := says_lk c 6 rfl
  have F6 := fun_mk (st := sFC) l6 c6 k6
  have b6 := F6.binds (ps := ["turner"]) fun _ _ _ _ _ _ us hl => match us, hl with | [_], _ => rfl
  have g6 := PySem.W.mg_of X G (show PySem.W.nsIn K mainGlobals "first_counts" = some (some (.ref (He.ga K "first_counts"))) from of_decide_eq_true (says_ex c 6 rfl))
  obtain ⟨oc7, od7, sl7, kV7, dc7, pm7, an7, cd7, ct7, l7, c7, k7⟩ := says_lk c 7 rfl
  have F7 := fun_mk (st := sNC) l7 c7 k7
  have b7 := F7.binds (ps := ["turner", "counts"]) fun _ _ _ _ _ _ us hl => match us, hl with | [_, _], _ => rfl
  have g7 := PySem.W.mg_of X G (show PySem.W.nsIn K mainGlobals "next_counts" = some (some (.ref (He.ga K "next_counts"))) from of_decide_eq_true (says_ex c 7 rfl))
  obtain ⟨oc8, od8, sl8, kV8, dc8, pm8, an8, cd8, ct8, l8, c8, k8⟩ := says_lk c 8 rfl
  have F8 := fun_mk (st := sTT) l8 c8 k8
  have b8 := F8.binds (ps := ["turner", "counts"]) fun _ _ _ _ _ _ us hl => match us, hl with | [_, _], _ => rfl
  have g8 := PySem.W.mg_of X G (show PySem.W.nsIn K mainGlobals "turn_total" = some (some (.ref (He.ga K "turn_total"))) from of_decide_eq_true (says_ex c 8 rfl))
  obtain ⟨oc9, od9, sl9, kV9, dc9, pm9, an9, cd9, ct9, l9, c9, k9⟩ := says_lk c 9 rfl
  have F9 := fun_mk (st := sTrl) l9 c9 k9
  have b9 := F9.binds (ps := ["turner", "counts"]) fun _ _ _ _ _ _ us hl => match us, hl with | [_, _], _ => rfl
  have g9 := PySem.W.mg_of X G (show PySem.W.nsIn K mainGlobals "_is_trail" = some (some (.ref (He.ga K "_is_trail"))) from of_decide_eq_true (says_ex c 9 rfl))
  obtain ⟨oc10, od10, sl10, kV10, dc10, pm10, an10, cd10, ct10, l10, c10, k10⟩ := says_lk c 10 rfl
  have F10 := fun_mk (st := sTls) l10 c10 k10
  have b10 := F10.binds (ps := ["turner", "counts"]) fun _ _ _ _ _ _ us hl => match us, hl with | [_, _], _ => rfl
  have g10 := PySem.W.mg_of X G (show PySem.W.nsIn K mainGlobals "_totals" = some (some (.ref (He.ga K "_totals"))) from of_decide_eq_true (says_ex c 10 rfl))
  obtain ⟨oc11, od11, sl11, kV11, dc11, pm11, an11, cd11, ct11, l11, c11, k11⟩ := says_lk c 11 rfl
  have F11 := fun_mk (st := sIpr) l11 c11 k11
  have b11 := F11.binds (ps := ["value"]) fun _ _ _ _ _ _ us hl => match us, hl with | [_], _ => rfl
  have g11 := PySem.W.mg_of X G (show PySem.W.nsIn K mainGlobals "_is_pair" = some (some (.ref (He.ga K "_is_pair"))) from of_decide_eq_true (says_ex c 11 rfl))
  obtain ⟨oc12, od12, sl12, kV12, dc12, pm12, an12, cd12, ct12, l12, c12, k12⟩ := says_lk c 12 rfl
  have F12 := fun_mk (st := sKy) l12 c12 k12
  have b12 := F12.binds (ps := ["pair"]) fun _ _ _ _ _ _ us hl => match us, hl with | [_], _ => rfl
  have g12 := PySem.W.mg_of X G (show PySem.W.nsIn K mainGlobals "_key" = some (some (.ref (He.ga K "_key"))) from of_decide_eq_true (says_ex c 12 rfl))
  obtain ⟨oc13, od13, sl13, kV13, dc13, pm13, an13, cd13, ct13, l13, c13, k13⟩ := says_lk c 13 rfl
  have F13 := fun_mk (st := sCkp) l13 c13 k13
  have b13 := F13.binds (ps := ["one", "other", "pair", "at"]) fun _ _ _ _ _ _ us hl => match us, hl with | [_, _, _, _], _ => rfl
  have g13 := PySem.W.mg_of X G (show PySem.W.nsIn K mainGlobals "_check_pair" = some (some (.ref (He.ga K "_check_pair"))) from of_decide_eq_true (says_ex c 13 rfl))
  obtain ⟨oc14, od14, sl14, kV14, dc14, pm14, an14, cd14, ct14, l14, c14, k14⟩ := says_lk c 14 rfl
  have F14 := fun_mk (st := sCp) l14 c14 k14
  have b14 := F14.binds (ps := ["value"]) fun _ _ _ _ _ _ us hl => match us, hl with | [_], _ => rfl
  have g14 := PySem.W.mg_of X G (show PySem.W.nsIn K mainGlobals "copied" = some (some (.ref (He.ga K "copied"))) from of_decide_eq_true (says_ex c 14 rfl))
  obtain ⟨oc15, od15, sl15, kV15, dc15, pm15, an15, cd15, ct15, l15, c15, k15⟩ := says_lk c 15 rfl
  have F15 := fun_mk (st := sIsSt) l15 c15 k15
  have b15 := F15.binds (ps := ["prime", "value", "many"]) fun _ _ _ _ _ _ us hl => match us, hl with | [_, _, _], _ => rfl
  have g15 := PySem.W.mg_of X G (show PySem.W.nsIn K mainGlobals "_is_state" = some (some (.ref (He.ga K "_is_state"))) from of_decide_eq_true (says_ex c 15 rfl))
  obtain ⟨oc16, od16, sl16, kV16, dc16, pm16, an16, cd16, ct16, l16, c16, k16⟩ := says_lk c 16 rfl
  have F16 := fun_mk (st := sFirst) l16 c16 k16
  have b16 := F16.binds (ps := ["prime", "states"]) fun _ _ _ _ _ _ us hl => match us, hl with | [_, _], _ => rfl
  have g16 := PySem.W.mg_of X G (show PySem.W.nsIn K mainGlobals "_first_wrong" = some (some (.ref (He.ga K "_first_wrong"))) from of_decide_eq_true (says_ex c 16 rfl))
  obtain ⟨oc17, od17, sl17, kV17, dc17, pm17, an17, cd17, ct17, l17, c17, k17⟩ := says_lk c 17 rfl
  have F17 := fun_mk (st := sBag) l17 c17 k17
  have b17 := F17.binds (ps := ["_law_script"]) fun _ _ _ _ _ _ us hl => match us, hl with | [_], _ => rfl
  have g17 := PySem.W.mg_of X G (show PySem.W.nsIn K mainGlobals "_law_bag" = some (some (.ref (He.ga K "_law_bag"))) from of_decide_eq_true (says_ex c 17 rfl))
  obtain ⟨oc18, od18, sl18, kV18, dc18, pm18, an18, cd18, ct18, l18, c18, k18⟩ := says_lk c 18 rfl
  have F18 := fun_mk (st := sPull) l18 c18 k18
  have b18 := F18.binds (ps := ["_law_bag_here", "_law_many"]) fun _ _ _ _ _ _ us hl => match us, hl with | [_, _], _ => rfl
  have g18 := PySem.W.mg_of X G (show PySem.W.nsIn K mainGlobals "_law_pull" = some (some (.ref (He.ga K "_law_pull"))) from of_decide_eq_true (says_ex c 18 rfl))
  obtain ⟨oc19, od19, sl19, kV19, dc19, pm19, an19, cd19, ct19, l19, c19, k19⟩ := says_lk c 19 rfl
  have F19 := fun_mk (st := sOf) l19 c19 k19
  have b19 := F19.binds (ps := ["_law_bag_here", "_law_some"]) fun _ _ _ _ _ _ us hl => match us, hl with | [_, _], _ => rfl
  have g19 := PySem.W.mg_of X G (show PySem.W.nsIn K mainGlobals "_law_of" = some (some (.ref (He.ga K "_law_of"))) from of_decide_eq_true (says_ex c 19 rfl))
  obtain ⟨oc20, od20, sl20, kV20, dc20, pm20, an20, cd20, ct20, l20, c20, k20⟩ := says_lk c 20 rfl
  have F20 := fun_mk (st := sMxd) l20 c20 k20
  have b20 := F20.binds (ps := ["_law_bag_here", "_law_some"]) fun _ _ _ _ _ _ us hl => match us, hl with | [_, _], _ => rfl
  have g20 := PySem.W.mg_of X G (show PySem.W.nsIn K mainGlobals "_law_mixed" = some (some (.ref (He.ga K "_law_mixed"))) from of_decide_eq_true (says_ex c 20 rfl))
  obtain ⟨oc21, od21, sl21, kV21, dc21, pm21, an21, cd21, ct21, l21, c21, k21⟩ := says_lk c 21 rfl
  have F21 := fun_mk (st := sSame) l21 c21 k21
  have b21 := F21.binds (ps := ["_law_found", "_law_due"]) fun _ _ _ _ _ _ us hl => match us, hl with | [_, _], _ => rfl
  have g21 := PySem.W.mg_of X G (show PySem.W.nsIn K mainGlobals "_law_same" = some (some (.ref (He.ga K "_law_same"))) from of_decide_eq_true (says_ex c 21 rfl))
  obtain ⟨oc22, od22, sl22, kV22, dc22, pm22, an22, cd22, ct22, l22, c22, k22⟩ := says_lk c 22 rfl
  have F22 := fun_mk (st := sGot) l22 c22 k22
  have b22 := F22.binds (ps := ["_law_ask"]) fun _ _ _ _ _ _ us hl => match us, hl with | [_], _ => rfl
  have g22 := PySem.W.mg_of X G (show PySem.W.nsIn K mainGlobals "_law_got" = some (some (.ref (He.ga K "_law_got"))) from of_decide_eq_true (says_ex c 22 rfl))
  obtain ⟨oc23, od23, sl23, kV23, dc23, pm23, an23, cd23, ct23, l23, c23, k23⟩ := says_lk c 23 rfl
  have F23 := fun_mk (st := sPrime) l23 c23 k23
  have b23 := F23.binds (ps := ["_law_bag_here"]) fun _ _ _ _ _ _ us hl => match us, hl with | [_], _ => rfl
  have g23 := PySem.W.mg_of X G (show PySem.W.nsIn K mainGlobals "_law_prime" = some (some (.ref (He.ga K "_law_prime"))) from of_decide_eq_true (says_ex c 23 rfl))
  obtain ⟨oc24, od24, sl24, kV24, dc24, pm24, an24, cd24, ct24, l24, c24, k24⟩ := says_lk c 24 rfl
  have F24 := fun_mk (st := sFigs) l24 c24 k24
  have b24 := F24.binds (ps := ["_law_bag_here", "_law_p", "_law_many"]) fun _ _ _ _ _ _ us hl => match us, hl with | [_, _, _], _ => rfl
  have g24 := PySem.W.mg_of X G (show PySem.W.nsIn K mainGlobals "_law_figures" = some (some (.ref (He.ga K "_law_figures"))) from of_decide_eq_true (says_ex c 24 rfl))
  obtain ⟨oc25, od25, sl25, kV25, dc25, pm25, an25, cd25, ct25, l25, c25, k25⟩ := says_lk c 25 rfl
  have F25 := fun_mk (st := sPlain) l25 c25 k25
  have b25 := F25.binds (ps := ["_law_bag_here", "_law_p", "_law_top"]) fun _ _ _ _ _ _ us hl => match us, hl with | [_, _, _], _ => rfl
  have g25 := PySem.W.mg_of X G (show PySem.W.nsIn K mainGlobals "_law_plain" = some (some (.ref (He.ga K "_law_plain"))) from of_decide_eq_true (says_ex c 25 rfl))
  obtain ⟨oc26, od26, sl26, kV26, dc26, pm26, an26, cd26, ct26, l26, c26, k26⟩ := says_lk c 26 rfl
  have F26 := fun_mk (st := sMade) l26 c26 k26
  have b26 := F26.binds (ps := ["_law_m"]) fun _ _ _ _ _ _ us hl => match us, hl with | [_], _ => rfl
  have g26 := PySem.W.mg_of X G (show PySem.W.nsIn K mainGlobals "_law_made" = some (some (.ref (He.ga K "_law_made"))) from of_decide_eq_true (says_ex c 26 rfl))
  obtain ⟨oc27, od27, sl27, kV27, dc27, pm27, an27, cd27, ct27, l27, c27, k27⟩ := says_lk c 27 rfl
  have F27 := fun_mk (st := sLUnd) l27 c27 k27
  have b27 := F27.binds (ps := ["_law_m"]) fun _ _ _ _ _ _ us hl => match us, hl with | [_], _ => rfl
  have g27 := PySem.W.mg_of X G (show PySem.W.nsIn K mainGlobals "_law_undone" = some (some (.ref (He.ga K "_law_undone"))) from of_decide_eq_true (says_ex c 27 rfl))
  obtain ⟨oc28, od28, sl28, kV28, dc28, pm28, an28, cd28, ct28, l28, c28, k28⟩ := says_lk c 28 rfl
  have F28 := fun_mk (st := sJoin) l28 c28 k28
  have b28 := F28.binds (ps := ["_law_m", "_law_n"]) fun _ _ _ _ _ _ us hl => match us, hl with | [_, _], _ => rfl
  have g28 := PySem.W.mg_of X G (show PySem.W.nsIn K mainGlobals "_law_joined" = some (some (.ref (He.ga K "_law_joined"))) from of_decide_eq_true (says_ex c 28 rfl))
  obtain ⟨oc29, od29, sl29, kV29, dc29, pm29, an29, cd29, ct29, l29, c29, k29⟩ := says_lk c 29 rfl
  have F29 := fun_mk (st := sOd) l29 c29 k29
  have b29 := F29.binds (ps := ["_law_p"]) fun _ _ _ _ _ _ us hl => match us, hl with | [_], _ => rfl
  have g29 := PySem.W.mg_of X G (show PySem.W.nsIn K mainGlobals "_law_odometer" = some (some (.ref (He.ga K "_law_odometer"))) from of_decide_eq_true (says_ex c 29 rfl))
  obtain ⟨oc30, od30, sl30, kV30, dc30, pm30, an30, cd30, ct30, l30, c30, k30⟩ := says_lk c 30 rfl
  have F30 := fun_mk (st := sSg) l30 c30 k30
  have b30 := F30.binds (ps := ["_law_bag_here", "_law_p"]) fun _ _ _ _ _ _ us hl => match us, hl with | [_, _], _ => rfl
  have g30 := PySem.W.mg_of X G (show PySem.W.nsIn K mainGlobals "_law_single" = some (some (.ref (He.ga K "_law_single"))) from of_decide_eq_true (says_ex c 30 rfl))
  obtain ⟨oc31, od31, sl31, kV31, dc31, pm31, an31, cd31, ct31, l31, c31, k31⟩ := says_lk c 31 rfl
  have F31 := fun_mk (st := sLF) l31 c31 k31
  have b31 := F31.binds (ps := ["_law_m"]) fun _ _ _ _ _ _ us hl => match us, hl with | [_], _ => rfl
  have g31 := PySem.W.mg_of X G (show PySem.W.nsIn K mainGlobals "_law_first" = some (some (.ref (He.ga K "_law_first"))) from of_decide_eq_true (says_ex c 31 rfl))
  obtain ⟨oc32, od32, sl32, kV32, dc32, pm32, an32, cd32, ct32, l32, c32, k32⟩ := says_lk c 32 rfl
  have F32 := fun_mk (st := sLL) l32 c32 k32
  have b32 := F32.binds (ps := ["_law_m", "_law_row"]) fun _ _ _ _ _ _ us hl => match us, hl with | [_, _], _ => rfl
  have g32 := PySem.W.mg_of X G (show PySem.W.nsIn K mainGlobals "_law_later" = some (some (.ref (He.ga K "_law_later"))) from of_decide_eq_true (says_ex c 32 rfl))
  obtain ⟨oc33, od33, sl33, kV33, dc33, pm33, an33, cd33, ct33, l33, c33, k33⟩ := says_lk c 33 rfl
  have F33 := fun_mk (st := sLS) l33 c33 k33
  have b33 := F33.binds (ps := ["_law_m", "_law_row"]) fun _ _ _ _ _ _ us hl => match us, hl with | [_, _], _ => rfl
  have g33 := PySem.W.mg_of X G (show PySem.W.nsIn K mainGlobals "_law_sum" = some (some (.ref (He.ga K "_law_sum"))) from of_decide_eq_true (says_ex c 33 rfl))
  obtain ⟨oc34, od34, sl34, kV34, dc34, pm34, an34, cd34, ct34, l34, c34, k34⟩ := says_lk c 34 rfl
  have F34 := fun_mk (st := sDb) l34 c34 k34
  have b34 := F34.binds (ps := ["_law_bag_here", "_law_m"]) fun _ _ _ _ _ _ us hl => match us, hl with | [_, _], _ => rfl
  have g34 := PySem.W.mg_of X G (show PySem.W.nsIn K mainGlobals "_law_doubled" = some (some (.ref (He.ga K "_law_doubled"))) from of_decide_eq_true (says_ex c 34 rfl))
  obtain ⟨oc35, od35, sl35, kV35, dc35, pm35, an35, cd35, ct35, l35, c35, k35⟩ := says_lk c 35 rfl
  have F35 := fun_mk (st := sBt) l35 c35 k35
  have b35 := F35.binds (ps := ["_law_bag_here", "_law_m"]) fun _ _ _ _ _ _ us hl => match us, hl with | [_, _], _ => rfl
  have g35 := PySem.W.mg_of X G (show PySem.W.nsIn K mainGlobals "_law_bent" = some (some (.ref (He.ga K "_law_bent"))) from of_decide_eq_true (says_ex c 35 rfl))
  obtain ⟨oc36, od36, sl36, kV36, dc36, pm36, an36, cd36, ct36, l36, c36, k36⟩ := says_lk c 36 rfl
  have F36 := fun_mk (st := sMtl) l36 c36 k36
  have b36 := F36.binds (ps := ["_law_found"]) fun _ _ _ _ _ _ us hl => match us, hl with | [_], _ => rfl
  have g36 := PySem.W.mg_of X G (show PySem.W.nsIn K mainGlobals "_law_match_told" = some (some (.ref (He.ga K "_law_match_told"))) from of_decide_eq_true (says_ex c 36 rfl))
  obtain ⟨oc37, od37, sl37, kV37, dc37, pm37, an37, cd37, ct37, l37, c37, k37⟩ := says_lk c 37 rfl
  obtain ⟨cl37, hcl37⟩ := He.codeIn_ref c37
  subst hcl37
  have eq_37 : lqC K "law" = cl37 := lqC_eq l37 rfl
  have F37 := fun_mk (st := sLaw) l37 c37 k37
  have b37 := F37.binds (ps := ["_law_script"]) fun _ _ _ _ _ _ us hl => match us, hl with | [_], _ => rfl
  have g37 := PySem.W.mg_of X G (show PySem.W.nsIn K mainGlobals "law" = some (some (.ref (He.ga K "law"))) from of_decide_eq_true (says_ex c 37 rfl))
  have B : Bn mg := ⟨PySem.W.mg_none_of X G (show PySem.W.nsIn K mainGlobals "len" = some none from of_decide_eq_true (says_ex c 38 rfl)), PySem.W.mg_none_of X G (show PySem.W.nsIn K mainGlobals "int" = some none from of_decide_eq_true (says_ex c 39 rfl)), PySem.W.mg_none_of X G (show PySem.W.nsIn K mainGlobals "abs" = some none from of_decide_eq_true (says_ex c 40 rfl)), PySem.W.mg_none_of X G (show PySem.W.nsIn K mainGlobals "list" = some none from of_decide_eq_true (says_ex c 41 rfl)), PySem.W.mg_none_of X G (show PySem.W.nsIn K mainGlobals "tuple" = some none from of_decide_eq_true (says_ex c 42 rfl)), PySem.W.mg_none_of X G (show PySem.W.nsIn K mainGlobals "range" = some none from of_decide_eq_true (says_ex c 43 rfl)), PySem.W.mg_none_of X G (show PySem.W.nsIn K mainGlobals "isinstance" = some none from of_decide_eq_true (says_ex c 44 rfl)), PySem.W.mg_none_of X G (show PySem.W.nsIn K mainGlobals "all" = some none from of_decide_eq_true (says_ex c 45 rfl)), PySem.W.mg_none_of X G (show PySem.W.nsIn K mainGlobals "zip" = some none from of_decide_eq_true (says_ex c 46 rfl)), PySem.W.mg_none_of X G (show PySem.W.nsIn K mainGlobals "enumerate" = some none from of_decide_eq_true (says_ex c 47 rfl)), PySem.W.mg_none_of X G (show PySem.W.nsIn K mainGlobals "bool" = some none from of_decide_eq_true (says_ex c 48 rfl))⟩
  have z_str := PySem.W.mg_none_of X G (show PySem.W.nsIn K mainGlobals "str" = some none from of_decide_eq_true (says_ex c 49 rfl))
  have z_super := PySem.W.mg_none_of X G (show PySem.W.nsIn K mainGlobals "super" = some none from of_decide_eq_true (says_ex c 50 rfl))
  have z_sum := PySem.W.mg_none_of X G (show PySem.W.nsIn K mainGlobals "sum" = some none from of_decide_eq_true (says_ex c 51 rfl))
  obtain ⟨tDi, zD⟩ := intB_ok (says_ex c 52 rfl)
  obtain ⟨dPx, nPx, sPx, tPa, tPb, tPc, tPd, lP⟩ := tup4_ok (says_ex c 53 rfl)
  have gv : Gv K mg (He.ga K "PRIMES") tDi := ⟨PySem.W.mg_of X G (show PySem.W.nsIn K mainGlobals "PRIMES" = some (some (.ref (He.ga K "PRIMES"))) from of_decide_eq_true (says_ex c 54 rfl)), fun H => .inr ⟨_, _, _, lP, rfl, rfl, by show 4 ≤ sizeLine; decide, .cons ⟨_, rfl⟩ (.cons ⟨_, rfl⟩ (.cons ⟨_, rfl⟩ (.cons ⟨_, rfl⟩ .nil)))⟩, PySem.W.mg_of X G zD⟩
  obtain ⟨tI_MOST_COUNTS, zI_MOST_COUNTS⟩ := intB_ok (says_ex c 55 rfl)
  have hI_MOST_COUNTS := PySem.W.mg_of X G zI_MOST_COUNTS
  have aC := PySem.W.mg_of X G (show PySem.W.nsIn K mainGlobals "Turner" = some (some (.ref (He.ga K "Turner"))) from of_decide_eq_true (says_ex c 56 rfl))
  obtain ⟨oc38, od38, sl38, kV38, dc38, pm38, an38, cd38, ct38, l38, c38, k38⟩ := says_lk c 38 rfl
  have Fm_states := fun_mk (st := sStates) l38 c38 k38
  have km_states := k38
  have am_states := (show PySem.W.findIn K (.ref (He.ga K "Turner")) "states" = some (some (.ref (He.ma K (He.ga K "Turner") "states"))) from of_decide_eq_true (says_ex c 57 rfl))
  have im_states := (says_ex c 58 rfl)
  have bm_states := Fm_states.binds (ps := ["self"]) fun _ _ _ _ _ _ us hl => match us, hl with | [_], _ => rfl
  obtain ⟨oc39, od39, sl39, kV39, dc39, pm39, an39, cd39, ct39, l39, c39, k39⟩ := says_lk c 39 rfl
  have Fm_len := fun_mk (st := sLen) l39 c39 k39
  have km_len := k39
  have am_len := (show PySem.W.findIn K (.ref (He.ga K "Turner")) "__len__" = some (some (.ref (He.ma K (He.ga K "Turner") "__len__"))) from of_decide_eq_true (says_ex c 59 rfl))
  have im_len := (says_ex c 60 rfl)
  have bm_len := Fm_len.binds (ps := ["self"]) fun _ _ _ _ _ _ us hl => match us, hl with | [_], _ => rfl
  obtain ⟨oc40, od40, sl40, kV40, dc40, pm40, an40, cd40, ct40, lp_prime, cp_prime, kp_prime⟩ := says_lk c 40 rfl
  have Fp_prime := fun_mk (st := sPrm) lp_prime cp_prime kp_prime
  have bp_prime := Fp_prime.binds (ps := ["self"]) fun _ _ _ _ _ _ us hl => match us, hl with | [_], _ => rfl
  have ap_prime := (show PySem.W.findIn K (.ref (He.ga K "Turner")) "prime" = some (some (.ref (He.ma K (He.ga K "Turner") "prime"))) from of_decide_eq_true (says_ex c 61 rfl))
  have gp_prime := (show PySem.W.specialIn K (.ref (He.ma K (He.ga K "Turner") "prime")) "__get__" = some (some (.builtin "property.__get__")) from of_decide_eq_true (says_ex c 62 rfl))
  have tp_prime := (show PySem.W.takesIn K (.ref (He.ma K (He.ga K "Turner") "prime")) = some true from of_decide_eq_true (says_ex c 63 rfl))
  obtain ⟨rr_prime, rp_prime⟩ := recB_ok (says_ex c 64 rfl)
  obtain ⟨oc41, od41, sl41, kV41, dc41, pm41, an41, cd41, ct41, lp_start, cp_start, kp_start⟩ := says_lk c 41 rfl
  have Fp_start := fun_mk (st := sStt) lp_start cp_start kp_start
  have bp_start := Fp_start.binds (ps := ["self"]) fun _ _ _ _ _ _ us hl => match us, hl with | [_], _ => rfl
  have ap_start := (show PySem.W.findIn K (.ref (He.ga K "Turner")) "start" = some (some (.ref (He.ma K (He.ga K "Turner") "start"))) from of_decide_eq_true (says_ex c 65 rfl))
  have gp_start := (show PySem.W.specialIn K (.ref (He.ma K (He.ga K "Turner") "start")) "__get__" = some (some (.builtin "property.__get__")) from of_decide_eq_true (says_ex c 66 rfl))
  have tp_start := (show PySem.W.takesIn K (.ref (He.ma K (He.ga K "Turner") "start")) = some true from of_decide_eq_true (says_ex c 67 rfl))
  obtain ⟨rr_start, rp_start⟩ := recB_ok (says_ex c 68 rfl)
  obtain ⟨ocI, odI, slI, dI, dcI, pmI, anI, cdI, ctI, tI, lI, cI, kI, zS⟩ := says_lkw c 42 rfl
  have aI := (show PySem.W.findIn K (.ref (He.ga K "Turner")) "__init__" = some (some (.ref (He.ma K (He.ga K "Turner") "__init__"))) from of_decide_eq_true (says_ex c 69 rfl))
  have iI := (says_ex c 70 rfl)
  have FI : FunD K "__init__" "Turner.__init__" (defArgs sInit) (defBody sInit) (defScope sInit) [] [("start", .int 0)] (He.ma K (He.ga K "Turner") "__init__") _ := ⟨⟨ocI, odI, .none, .ref dI, dcI, pmI, anI, cdI, ctI, slI, rfl, lI, cI, .inl ⟨rfl, rfl⟩, .inr ⟨dI, rfl, fun q hq => by rw [List.mem_singleton.mp hq]; exact ⟨_, zS, tI, rfl⟩⟩⟩, kI⟩
  obtain ⟨mv, KB⟩ := FI.kbinds0 (ps := ["self", "prime", "states", "start"]) 3 ["start"] [] (fun us mv ws => us ++ ws) (by simp) (fun q hq => by cases hq) (fun r1 _ r2 => r1.append r2)
    (fun D doc pm an cdv ct us mv ws l1 l2 l3 => match us, mv, ws, l1, l2, l3 with | [_, _, _], [], [_], _, _, _ => rfl)
  obtain ⟨ds, VD, BD⟩ := FI.binds0 (ps := ["self", "prime", "states", "start"]) 3 (by simp) rfl (fun D doc pm an cdv ct us ks l1 l2 => match us, ks, l1, l2 with | [_, _, _], [_], _, _ => ⟨_, _, _, _, _, _, rfl, rfl, rfl⟩)
  have Tcl : Tc K (He.ga K "Turner") := ⟨⟨(says_ex c 71 rfl), (says_ex c 72 rfl), (says_ex c 73 rfl), (show PySem.W.findIn K (.ref (He.ga K "Turner")) "__setattr__" = some (some (.builtin "object.__setattr__")) from of_decide_eq_true (says_ex c 74 rfl))⟩, (show PySem.W.findIn K (.ref (He.ga K "Turner")) "_prime" = some none from of_decide_eq_true (says_ex c 75 rfl)), (show PySem.W.findIn K (.ref (He.ga K "Turner")) "_states" = some none from of_decide_eq_true (says_ex c 76 rfl)), (show PySem.W.findIn K (.ref (He.ga K "Turner")) "_start" = some none from of_decide_eq_true (says_ex c 77 rfl))⟩
  have rd : ClX.CRead K (He.ga K "Turner") (.type "type") := ⟨(says_ex c 78 rfl), (show PySem.W.specialIn K (.ref (He.ga K "Turner")) "__getattribute__" = some (some (.builtin "type.__getattribute__")) from of_decide_eq_true (says_ex c 79 rfl))⟩
  obtain ⟨tM, mC⟩ := conB_ok (says_ex c 80 rfl)
  have cv : Cv K mg (He.ga K "Turner") (.type "type") (.int 240 tM) := ⟨aC, rd, ⟨mC, tM, rfl⟩⟩
  have Mt : Mk K (He.ga K "Turner") (He.ma K (He.ga K "Turner") "__init__") := ⟨(says_ex c 81 rfl), aI, iI, (says_ex c 82 rfl)⟩
  have aC_Answer := PySem.W.mg_of X G (show PySem.W.nsIn K mainGlobals "Answer" = some (some (.ref (He.ga K "Answer"))) from of_decide_eq_true (says_ex c 83 rfl))
  obtain ⟨ocI_Answer, odI_Answer, slI_Answer, kVI_Answer, dcI_Answer, pmI_Answer, anI_Answer, cdI_Answer, ctI_Answer, lI_Answer, cI_Answer, kI_Answer⟩ := says_lk c 43 rfl
  have FI_Answer := fun_mk (st := sAi) lI_Answer cI_Answer kI_Answer
  have bI_Answer := FI_Answer.binds (ps := ["self", "turner"]) fun _ _ _ _ _ _ us hl => match us, hl with | [_, _], _ => rfl
  have Mk_Answer : Mk K (He.ga K "Answer") (He.ma K (He.ga K "Answer") "__init__") := ⟨(says_ex c 84 rfl), (show PySem.W.findIn K (.ref (He.ga K "Answer")) "__init__" = some (some (.ref (He.ma K (He.ga K "Answer") "__init__"))) from of_decide_eq_true (says_ex c 85 rfl)), (says_ex c 86 rfl), (says_ex c 87 rfl)⟩
  have Cl_Answer : Cls K (He.ga K "Answer") := ⟨(says_ex c 88 rfl), (says_ex c 89 rfl), (says_ex c 90 rfl), (show PySem.W.findIn K (.ref (He.ga K "Answer")) "__setattr__" = some (some (.builtin "object.__setattr__")) from of_decide_eq_true (says_ex c 91 rfl))⟩
  have aC_Single := PySem.W.mg_of X G (show PySem.W.nsIn K mainGlobals "Single" = some (some (.ref (He.ga K "Single"))) from of_decide_eq_true (says_ex c 92 rfl))
  obtain ⟨ocm_Single_holds, odm_Single_holds, slm_Single_holds, kVm_Single_holds, dcm_Single_holds, pmm_Single_holds, anm_Single_holds, cdm_Single_holds, ctm_Single_holds, lm_Single_holds, cm_Single_holds, km_Single_holds⟩ := says_lk c 44 rfl
  have Fm_Single_holds := fun_mk (st := sHoS) lm_Single_holds cm_Single_holds km_Single_holds
  have bm_Single_holds := Fm_Single_holds.binds (ps := ["self"]) fun _ _ _ _ _ _ us hl => match us, hl with | [_], _ => rfl
  have am_Single_holds := (show PySem.W.findIn K (.ref (He.ga K "Single")) "holds" = some (some (.ref (He.ma K (He.ga K "Single") "holds"))) from of_decide_eq_true (says_ex c 93 rfl))
  have im_Single_holds := (says_ex c 94 rfl)
  obtain ⟨kVI_Single, dcI_Single, pmI_Single, anI_Single, ctI_Single, ⟨ocI_Single, odI_Single, slI_Single, lI_Single⟩, kkI_Single, cI_Single⟩ := says_sup c 45 rfl (says_ex c 95 rfl)
  have bI_Single : Binds K (PySem.W.fnX "__init__" "Single.__init__" (defArgs sNi) (defBody sNi) (defScope sNi) [("__class__", ccA K (He.ma K (He.ga K "Single") "__init__"))] .none kVI_Single dcI_Single pmI_Single anI_Single (.ref (cdA K (He.ma K (He.ga K "Single") "__init__"))) ctI_Single) ["self", "turner", "counts", "back"] [] := .all fun us hl => match us, hl with | [_, _, _, _], _ => rfl
  have Mk_Single : Mk K (He.ga K "Single") (He.ma K (He.ga K "Single") "__init__") := ⟨(says_ex c 102 rfl), (show PySem.W.findIn K (.ref (He.ga K "Single")) "__init__" = some (some (.ref (He.ma K (He.ga K "Single") "__init__"))) from of_decide_eq_true (says_ex c 103 rfl)), (says_ex c 104 rfl), (says_ex c 105 rfl)⟩
  have Cl_Single : Cls K (He.ga K "Single") := ⟨(says_ex c 106 rfl), (says_ex c 107 rfl), (says_ex c 108 rfl), (show PySem.W.findIn K (.ref (He.ga K "Single")) "__setattr__" = some (some (.builtin "object.__setattr__")) from of_decide_eq_true (says_ex c 109 rfl))⟩
  have na_Single_turner : NoAttr K (He.ga K "Single") "_turner" := (show PySem.W.findIn K (.ref (He.ga K "Single")) "_turner" = some none from of_decide_eq_true (says_ex c 110 rfl))
  have na_Single_counts : NoAttr K (He.ga K "Single") "_counts" := (show PySem.W.findIn K (.ref (He.ga K "Single")) "_counts" = some none from of_decide_eq_true (says_ex c 111 rfl))
  have na_Single_back : NoAttr K (He.ga K "Single") "_back" := (show PySem.W.findIn K (.ref (He.ga K "Single")) "_back" = some none from of_decide_eq_true (says_ex c 112 rfl))
  have aC_Match := PySem.W.mg_of X G (show PySem.W.nsIn K mainGlobals "Match" = some (some (.ref (He.ga K "Match"))) from of_decide_eq_true (says_ex c 113 rfl))
  obtain ⟨ocm_Match_holds, odm_Match_holds, slm_Match_holds, kVm_Match_holds, dcm_Match_holds, pmm_Match_holds, anm_Match_holds, cdm_Match_holds, ctm_Match_holds, lm_Match_holds, cm_Match_holds, km_Match_holds⟩ := says_lk c 46 rfl
  have Fm_Match_holds := fun_mk (st := sMh) lm_Match_holds cm_Match_holds km_Match_holds
  have bm_Match_holds := Fm_Match_holds.binds (ps := ["self"]) fun _ _ _ _ _ _ us hl => match us, hl with | [_], _ => rfl
  have am_Match_holds := (show PySem.W.findIn K (.ref (He.ga K "Match")) "holds" = some (some (.ref (He.ma K (He.ga K "Match") "holds"))) from of_decide_eq_true (says_ex c 114 rfl))
  have im_Match_holds := (says_ex c 115 rfl)
  obtain ⟨ocp_Match_pairs, odp_Match_pairs, slp_Match_pairs, kVp_Match_pairs, dcp_Match_pairs, pmp_Match_pairs, anp_Match_pairs, cdp_Match_pairs, ctp_Match_pairs, lp_Match_pairs, cp_Match_pairs, kp_Match_pairs⟩ := says_lk c 47 rfl
  have Fp_Match_pairs := fun_mk (st := sMp) lp_Match_pairs cp_Match_pairs kp_Match_pairs
  have bp_Match_pairs := Fp_Match_pairs.binds (ps := ["self"]) fun _ _ _ _ _ _ us hl => match us, hl with | [_], _ => rfl
  have ap_Match_pairs := (show PySem.W.findIn K (.ref (He.ga K "Match")) "pairs" = some (some (.ref (He.ma K (He.ga K "Match") "pairs"))) from of_decide_eq_true (says_ex c 116 rfl))
  have hp_Match_pairs := (show PySem.W.specialIn K (.ref (He.ma K (He.ga K "Match") "pairs")) "__get__" = some (some (.builtin "property.__get__")) from of_decide_eq_true (says_ex c 117 rfl))
  have tp_Match_pairs := (show PySem.W.takesIn K (.ref (He.ma K (He.ga K "Match") "pairs")) = some true from of_decide_eq_true (says_ex c 118 rfl))
  obtain ⟨rrp_Match_pairs, rp_Match_pairs⟩ := recB_ok (says_ex c 119 rfl)
  have Op_Match_pairs : PropOf K (He.ga K "Match") "pairs" (He.ma K (He.ga K "Match") "pairs") (paA K "property" (He.ma K (He.ga K "Match") "pairs")) := ⟨ap_Match_pairs, hp_Match_pairs, tp_Match_pairs, _, rp_Match_pairs⟩
  obtain ⟨ocp_Match_back, odp_Match_back, slp_Match_back, kVp_Match_back, dcp_Match_back, pmp_Match_back, anp_Match_back, cdp_Match_back, ctp_Match_back, lp_Match_back, cp_Match_back, kp_Match_back⟩ := says_lk c 48 rfl
  have Fp_Match_back := fun_mk (st := sMb) lp_Match_back cp_Match_back kp_Match_back
  have bp_Match_back := Fp_Match_back.binds (ps := ["self"]) fun _ _ _ _ _ _ us hl => match us, hl with | [_], _ => rfl
  have ap_Match_back := (show PySem.W.findIn K (.ref (He.ga K "Match")) "back" = some (some (.ref (He.ma K (He.ga K "Match") "back"))) from of_decide_eq_true (says_ex c 120 rfl))
  have hp_Match_back := (show PySem.W.specialIn K (.ref (He.ma K (He.ga K "Match") "back")) "__get__" = some (some (.builtin "property.__get__")) from of_decide_eq_true (says_ex c 121 rfl))
  have tp_Match_back := (show PySem.W.takesIn K (.ref (He.ma K (He.ga K "Match") "back")) = some true from of_decide_eq_true (says_ex c 122 rfl))
  obtain ⟨rrp_Match_back, rp_Match_back⟩ := recB_ok (says_ex c 123 rfl)
  have Op_Match_back : PropOf K (He.ga K "Match") "back" (He.ma K (He.ga K "Match") "back") (paA K "property" (He.ma K (He.ga K "Match") "back")) := ⟨ap_Match_back, hp_Match_back, tp_Match_back, _, rp_Match_back⟩
  obtain ⟨ocI_Match, odI_Match, slI_Match, kVI_Match, dcI_Match, pmI_Match, anI_Match, cdI_Match, ctI_Match, lI_Match, cI_Match, kI_Match⟩ := says_lk c 49 rfl
  have FI_Match := fun_mk (st := sMi) lI_Match cI_Match kI_Match
  have bI_Match := FI_Match.binds (ps := ["self", "one", "other", "pairs", "back"]) fun _ _ _ _ _ _ us hl => match us, hl with | [_, _, _, _, _], _ => rfl
  have Mk_Match : Mk K (He.ga K "Match") (He.ma K (He.ga K "Match") "__init__") := ⟨(says_ex c 124 rfl), (show PySem.W.findIn K (.ref (He.ga K "Match")) "__init__" = some (some (.ref (He.ma K (He.ga K "Match") "__init__"))) from of_decide_eq_true (says_ex c 125 rfl)), (says_ex c 126 rfl), (says_ex c 127 rfl)⟩
  have Cl_Match : Cls K (He.ga K "Match") := ⟨(says_ex c 128 rfl), (says_ex c 129 rfl), (says_ex c 130 rfl), (show PySem.W.findIn K (.ref (He.ga K "Match")) "__setattr__" = some (some (.builtin "object.__setattr__")) from of_decide_eq_true (says_ex c 131 rfl))⟩
  have na_Match_one : NoAttr K (He.ga K "Match") "_one" := (show PySem.W.findIn K (.ref (He.ga K "Match")) "_one" = some none from of_decide_eq_true (says_ex c 132 rfl))
  have na_Match_other : NoAttr K (He.ga K "Match") "_other" := (show PySem.W.findIn K (.ref (He.ga K "Match")) "_other" = some none from of_decide_eq_true (says_ex c 133 rfl))
  have na_Match_pairs : NoAttr K (He.ga K "Match") "_pairs" := (show PySem.W.findIn K (.ref (He.ga K "Match")) "_pairs" = some none from of_decide_eq_true (says_ex c 134 rfl))
  have na_Match_back : NoAttr K (He.ga K "Match") "_back" := (show PySem.W.findIn K (.ref (He.ga K "Match")) "_back" = some none from of_decide_eq_true (says_ex c 135 rfl))
  obtain ⟨oc_match, od_match, sl_match, dD_match, dc_match, pm_match, an_match, cd_match, ct_match, t_match, l_match, c_match, k_match, z_match⟩ := says_lkw c 50 rfl
  have g_match := PySem.W.mg_of X G (show PySem.W.nsIn K mainGlobals "match" = some (some (.ref (He.ga K "match"))) from of_decide_eq_true (says_ex c 136 rfl))
  have F_match : FunD K "match" "match" (defArgs sMt) (defBody sMt) (defScope sMt) [] [("most", .int 2000)] (He.ga K "match") _ := ⟨⟨oc_match, od_match, .none, .ref dD_match, dc_match, pm_match, an_match, cd_match, ct_match, sl_match, rfl, l_match, c_match, .inl ⟨rfl, rfl⟩, .inr ⟨dD_match, rfl, fun q hq => by rw [List.mem_singleton.mp hq]; exact ⟨_, z_match, t_match, rfl⟩⟩⟩, k_match⟩
  obtain ⟨ds_match, V_match, B_match⟩ := F_match.binds0 (ps := ["one", "other", "most"]) 2 (by simp) rfl (fun D doc pm an cdv ct us ks l1 l2 => match us, ks, l1, l2 with | [_, _], [_], _, _ => ⟨_, _, _, _, _, _, rfl, rfl, rfl⟩)
  obtain ⟨mv_match, KB_match⟩ := F_match.kbinds0 (ps := ["one", "other", "most"]) 0 ["other", "one"] [("most", .int 2000)] gSwMp (by simp) (fun q hq => hq) (fun r1 r2 r3 => by
      cases r3 with
      | nil => exact .nil
      | cons h1 r3 =>
        cases r3 with
        | nil => exact .nil
        | cons h2 r3 =>
          cases r3 with
          | nil => exact .cons h2 (.cons h1 r2)
          | cons h3 r3 => exact .nil)
    (fun D doc pm an cdv ct us mv ws l1 l2 l3 => match us, mv, ws, l1, l2, l3 with | [], [_], [_, _], _, _, _ => ⟨_, _, _, _, _, _, rfl, rfl, rfl⟩)
  have h_TurnError := PySem.W.mg_of X G (show PySem.W.nsIn K mainGlobals "TurnError" = some (some (.ref (He.ga K "TurnError"))) from of_decide_eq_true (says_ex c 137 rfl))
  have h_Missing := PySem.W.mg_of X G (show PySem.W.nsIn K mainGlobals "Missing" = some (some (.ref (He.ga K "Missing"))) from of_decide_eq_true (says_ex c 138 rfl))
  have h_NothingLeft := PySem.W.mg_of X G (show PySem.W.nsIn K mainGlobals "NothingLeft" = some (some (.ref (He.ga K "NothingLeft"))) from of_decide_eq_true (says_ex c 139 rfl))
  obtain ⟨kV51, dc51, pm51, an51, ct51, ⟨oc51, od51, sl51, l51⟩, kk51, c51⟩ := says_sup c 51 rfl (says_ex c 140 rfl)
  have h_InvalidCount := PySem.W.mg_of X G (show PySem.W.nsIn K mainGlobals "InvalidCount" = some (some (.ref (He.ga K "InvalidCount"))) from of_decide_eq_true (says_ex c 141 rfl))
  have OX_InvalidCount : OexC K (He.ga K "InvalidCount") := oexB_ok (says_ex c 144 rfl)
  have EN_InvalidCount : ErrN K (He.ga K "InvalidCount") "InvalidCount" := errB_ok (says_ex c 145 rfl)
  have na_InvalidCount_given : NoAttr K (He.ga K "InvalidCount") "given" := (show PySem.W.findIn K (.ref (He.ga K "InvalidCount")) "given" = some none from of_decide_eq_true (says_ex c 146 rfl))
  have na_InvalidCount_code : NoAttr K (He.ga K "InvalidCount") "code" := (show PySem.W.findIn K (.ref (He.ga K "InvalidCount")) "code" = some none from of_decide_eq_true (says_ex c 147 rfl))
  have na_InvalidCount_details : NoAttr K (He.ga K "InvalidCount") "details" := (show PySem.W.findIn K (.ref (He.ga K "InvalidCount")) "details" = some none from of_decide_eq_true (says_ex c 148 rfl))
  have CAT_InvalidCount : CatC K [.ref (He.ga K "TurnError"), .ref (He.ga K "Missing"), .ref (He.ga K "NothingLeft")] (He.ga K "InvalidCount") := ⟨(excB_ok (says_ex c 149 rfl)).2, na_InvalidCount_code, na_InvalidCount_details, (show PySem.W.exmAny K (.ref (He.ga K "InvalidCount")) [.ref (He.ga K "TurnError"), .ref (He.ga K "Missing"), .ref (He.ga K "NothingLeft")] = some true from of_decide_eq_true (says_ex c 150 rfl))⟩
  have bE_InvalidCount : Binds K (PySem.W.fnX "__init__" "InvalidCount.__init__" (defArgs sE_InvalidCount) (defBody sE_InvalidCount) (defScope sE_InvalidCount) [("__class__", ccA K (He.ma K (He.ga K "InvalidCount") "__init__"))] .none kV51 dc51 pm51 an51 (.ref (cdA K (He.ma K (He.ga K "InvalidCount") "__init__"))) ct51) ["self", "given"] [] := .all fun us hl => match us, hl with | [_, _], _ => rfl
  obtain ⟨kV52, dc52, pm52, an52, ct52, ⟨oc52, od52, sl52, l52⟩, kk52, c52⟩ := says_sup c 52 rfl (says_ex c 153 rfl)
  have h_TooMany := PySem.W.mg_of X G (show PySem.W.nsIn K mainGlobals "TooMany" = some (some (.ref (He.ga K "TooMany"))) from of_decide_eq_true (says_ex c 154 rfl))
  have OX_TooMany : OexC K (He.ga K "TooMany") := oexB_ok (says_ex c 157 rfl)
  have EN_TooMany : ErrN K (He.ga K "TooMany") "TooMany" := errB_ok (says_ex c 158 rfl)
  have na_TooMany_most : NoAttr K (He.ga K "TooMany") "most" := (show PySem.W.findIn K (.ref (He.ga K "TooMany")) "most" = some none from of_decide_eq_true (says_ex c 159 rfl))
  have na_TooMany_code : NoAttr K (He.ga K "TooMany") "code" := (show PySem.W.findIn K (.ref (He.ga K "TooMany")) "code" = some none from of_decide_eq_true (says_ex c 160 rfl))
  have na_TooMany_details : NoAttr K (He.ga K "TooMany") "details" := (show PySem.W.findIn K (.ref (He.ga K "TooMany")) "details" = some none from of_decide_eq_true (says_ex c 161 rfl))
  have CAT_TooMany : CatC K [.ref (He.ga K "TurnError"), .ref (He.ga K "Missing"), .ref (He.ga K "NothingLeft")] (He.ga K "TooMany") := ⟨(excB_ok (says_ex c 162 rfl)).2, na_TooMany_code, na_TooMany_details, (show PySem.W.exmAny K (.ref (He.ga K "TooMany")) [.ref (He.ga K "TurnError"), .ref (He.ga K "Missing"), .ref (He.ga K "NothingLeft")] = some true from of_decide_eq_true (says_ex c 163 rfl))⟩
  have bE_TooMany : Binds K (PySem.W.fnX "__init__" "TooMany.__init__" (defArgs sE_TooMany) (defBody sE_TooMany) (defScope sE_TooMany) [("__class__", ccA K (He.ma K (He.ga K "TooMany") "__init__"))] .none kV52 dc52 pm52 an52 (.ref (cdA K (He.ma K (He.ga K "TooMany") "__init__"))) ct52) ["self", "most"] [] := .all fun us hl => match us, hl with | [_, _], _ => rfl
  obtain ⟨kV53, dc53, pm53, an53, ct53, ⟨oc53, od53, sl53, l53⟩, kk53, c53⟩ := says_sup c 53 rfl (says_ex c 166 rfl)
  have h_NoRelabelling := PySem.W.mg_of X G (show PySem.W.nsIn K mainGlobals "NoRelabelling" = some (some (.ref (He.ga K "NoRelabelling"))) from of_decide_eq_true (says_ex c 167 rfl))
  have OX_NoRelabelling : OexC K (He.ga K "NoRelabelling") := oexB_ok (says_ex c 170 rfl)
  have EN_NoRelabelling : ErrN K (He.ga K "NoRelabelling") "NoRelabelling" := errB_ok (says_ex c 171 rfl)
  have na_NoRelabelling_at : NoAttr K (He.ga K "NoRelabelling") "at" := (show PySem.W.findIn K (.ref (He.ga K "NoRelabelling")) "at" = some none from of_decide_eq_true (says_ex c 172 rfl))
  have na_NoRelabelling_code : NoAttr K (He.ga K "NoRelabelling") "code" := (show PySem.W.findIn K (.ref (He.ga K "NoRelabelling")) "code" = some none from of_decide_eq_true (says_ex c 173 rfl))
  have na_NoRelabelling_details : NoAttr K (He.ga K "NoRelabelling") "details" := (show PySem.W.findIn K (.ref (He.ga K "NoRelabelling")) "details" = some none from of_decide_eq_true (says_ex c 174 rfl))
  have CAT_NoRelabelling : CatC K [.ref (He.ga K "TurnError"), .ref (He.ga K "Missing"), .ref (He.ga K "NothingLeft")] (He.ga K "NoRelabelling") := ⟨(excB_ok (says_ex c 175 rfl)).2, na_NoRelabelling_code, na_NoRelabelling_details, (show PySem.W.exmAny K (.ref (He.ga K "NoRelabelling")) [.ref (He.ga K "TurnError"), .ref (He.ga K "Missing"), .ref (He.ga K "NothingLeft")] = some true from of_decide_eq_true (says_ex c 176 rfl))⟩
  have bE_NoRelabelling : Binds K (PySem.W.fnX "__init__" "NoRelabelling.__init__" (defArgs sE_NoRelabelling) (defBody sE_NoRelabelling) (defScope sE_NoRelabelling) [("__class__", ccA K (He.ma K (He.ga K "NoRelabelling") "__init__"))] .none kV53 dc53 pm53 an53 (.ref (cdA K (He.ma K (He.ga K "NoRelabelling") "__init__"))) ct53) ["self", "at"] [] := .all fun us hl => match us, hl with | [_, _], _ => rfl
  obtain ⟨kV54, dc54, pm54, an54, ct54, ⟨oc54, od54, sl54, l54⟩, kk54, c54⟩ := says_sup c 54 rfl (says_ex c 179 rfl)
  have h_PrimesDiffer := PySem.W.mg_of X G (show PySem.W.nsIn K mainGlobals "PrimesDiffer" = some (some (.ref (He.ga K "PrimesDiffer"))) from of_decide_eq_true (says_ex c 180 rfl))
  have OX_PrimesDiffer : OexC K (He.ga K "PrimesDiffer") := oexB_ok (says_ex c 183 rfl)
  have EN_PrimesDiffer : ErrN K (He.ga K "PrimesDiffer") "PrimesDiffer" := errB_ok (says_ex c 184 rfl)
  have na_PrimesDiffer_code : NoAttr K (He.ga K "PrimesDiffer") "code" := (show PySem.W.findIn K (.ref (He.ga K "PrimesDiffer")) "code" = some none from of_decide_eq_true (says_ex c 185 rfl))
  have na_PrimesDiffer_details : NoAttr K (He.ga K "PrimesDiffer") "details" := (show PySem.W.findIn K (.ref (He.ga K "PrimesDiffer")) "details" = some none from of_decide_eq_true (says_ex c 186 rfl))
  have CAT_PrimesDiffer : CatC K [.ref (He.ga K "TurnError"), .ref (He.ga K "Missing"), .ref (He.ga K "NothingLeft")] (He.ga K "PrimesDiffer") := ⟨(excB_ok (says_ex c 187 rfl)).2, na_PrimesDiffer_code, na_PrimesDiffer_details, (show PySem.W.exmAny K (.ref (He.ga K "PrimesDiffer")) [.ref (He.ga K "TurnError"), .ref (He.ga K "Missing"), .ref (He.ga K "NothingLeft")] = some true from of_decide_eq_true (says_ex c 188 rfl))⟩
  have bE_PrimesDiffer : Binds K (PySem.W.fnX "__init__" "PrimesDiffer.__init__" (defArgs sE_PrimesDiffer) (defBody sE_PrimesDiffer) (defScope sE_PrimesDiffer) [("__class__", ccA K (He.ma K (He.ga K "PrimesDiffer") "__init__"))] .none kV54 dc54 pm54 an54 (.ref (cdA K (He.ma K (He.ga K "PrimesDiffer") "__init__"))) ct54) ["self"] [] := .all fun us hl => match us, hl with | [_], _ => rfl
  obtain ⟨kV55, dc55, pm55, an55, ct55, ⟨oc55, od55, sl55, l55⟩, kk55, c55⟩ := says_sup c 55 rfl (says_ex c 191 rfl)
  have h_NotSingle := PySem.W.mg_of X G (show PySem.W.nsIn K mainGlobals "NotSingle" = some (some (.ref (He.ga K "NotSingle"))) from of_decide_eq_true (says_ex c 192 rfl))
  have OX_NotSingle : OexC K (He.ga K "NotSingle") := oexB_ok (says_ex c 195 rfl)
  have EN_NotSingle : ErrN K (He.ga K "NotSingle") "NotSingle" := errB_ok (says_ex c 196 rfl)
  have na_NotSingle_code : NoAttr K (He.ga K "NotSingle") "code" := (show PySem.W.findIn K (.ref (He.ga K "NotSingle")) "code" = some none from of_decide_eq_true (says_ex c 197 rfl))
  have na_NotSingle_details : NoAttr K (He.ga K "NotSingle") "details" := (show PySem.W.findIn K (.ref (He.ga K "NotSingle")) "details" = some none from of_decide_eq_true (says_ex c 198 rfl))
  have CAT_NotSingle : CatC K [.ref (He.ga K "TurnError"), .ref (He.ga K "Missing"), .ref (He.ga K "NothingLeft")] (He.ga K "NotSingle") := ⟨(excB_ok (says_ex c 199 rfl)).2, na_NotSingle_code, na_NotSingle_details, (show PySem.W.exmAny K (.ref (He.ga K "NotSingle")) [.ref (He.ga K "TurnError"), .ref (He.ga K "Missing"), .ref (He.ga K "NothingLeft")] = some true from of_decide_eq_true (says_ex c 200 rfl))⟩
  have bE_NotSingle : Binds K (PySem.W.fnX "__init__" "NotSingle.__init__" (defArgs sE_NotSingle) (defBody sE_NotSingle) (defScope sE_NotSingle) [("__class__", ccA K (He.ma K (He.ga K "NotSingle") "__init__"))] .none kV55 dc55 pm55 an55 (.ref (cdA K (He.ma K (He.ga K "NotSingle") "__init__"))) ct55) ["self"] [] := .all fun us hl => match us, hl with | [_], _ => rfl
  have hfa2 := hfa.symm.trans g37
  cases hfa2
  refine ⟨PySem.W.fnOf "law" "law" (defArgs sLaw) (defBody sLaw) (defScope sLaw) .none kV37 dc37 pm37 an37 (.ref cl37) ct37, dsL.map fun d => (lqC K d, lqP K d), spLawT K (lqP K "law"), fun p hp => by obtain ⟨d, hd, rfl⟩ := List.mem_map.mp hp; exact (Y.tb d hd).at_, fun p hp => by obtain ⟨d, hd, rfl⟩ := List.mem_map.mp hp; exact (Y.tb d hd).nK, fun p hp => by obtain ⟨d, hd, rfl⟩ := List.mem_map.mp hp; exact PySem.W.codeHd_of_K X (Y.tb d hd).hd, fun s u => .of_eq rfl, fun H a ns hl _ hT hS => ⟨a, ns, rfl, hS, hl, hT _ (List.mem_map.mpr ⟨"law", by simp [dsL], rfl⟩), fun _ => rfl⟩, fun base XB GB TBs => ?_⟩
  have TB_law : LamX.TabB base mg (lqC K "law") (lqP K "law") := TBs _ (List.mem_map.mpr ⟨"law", by simp [dsL], rfl⟩)
  rw [eq_37] at TB_law
  have FC_Single : FunO l.prog K mg "__init__" "Single.__init__" sNi (He.ma K (He.ga K "Single") "__init__") (He.ga K "Single") (ccA K (He.ma K (He.ga K "Single") "__init__")) (cdA K (He.ma K (He.ga K "Single") "__init__")) _ (He.ma K (He.ga K "Answer") "__init__") := ⟨⟨_, _, _, _, _, _, _, _, rfl, lI_Single⟩, cI_Single, cellB_ok (says_ex c 96 rfl), (let ⟨_, a1, a2, a3, a4, a5, a6, a7, a8, a9⟩ := cdB_ok (says_ex c 95 rfl); ⟨a1, a2, a3, a4, a5, a6, a7, a8, by rw [hfl]; exact a9⟩), (says_ex c 97 rfl), (show PySem.W.mroIn K (He.ga K "Single") (.ref (He.ga K "Single")) = some true from of_decide_eq_true (says_ex c 98 rfl)), supB_ok (says_ex c 99 rfl) (show PySem.W.findIn K (.ref (He.ga K "Answer")) "__init__" = some (some (.ref (He.ma K (He.ga K "Answer") "__init__"))) from of_decide_eq_true (says_ex c 85 rfl)), (says_ex c 100 rfl), (says_ex c 86 rfl), (show PySem.W.nsIn K cStatics "thirdparty.any" = some none from of_decide_eq_true (says_ex c 101 rfl)), z_super, hsu, ⟨_, rfl, rfl⟩, by decide +kernel, by decide +kernel, by decide +kernel⟩
  have FC_InvalidCount : FunC l.prog K mg "__init__" "InvalidCount.__init__" sE_InvalidCount (He.ma K (He.ga K "InvalidCount") "__init__") (He.ga K "InvalidCount") (ccA K (He.ma K (He.ga K "InvalidCount") "__init__")) (cdA K (He.ma K (He.ga K "InvalidCount") "__init__")) _ "ValueError.__init__" := ⟨⟨_, _, _, _, _, _, _, _, rfl, l51⟩, c51, cellB_ok (says_ex c 142 rfl), (let ⟨_, a1, a2, a3, a4, a5, a6, a7, a8, a9⟩ := cdB_ok (says_ex c 140 rfl); ⟨a1, a2, a3, a4, a5, a6, a7, a8, by rw [hfl]; exact a9⟩), (show PySem.W.ks_superIn K (He.ga K "InvalidCount") (He.ga K "InvalidCount") "__init__" = some (some (.builtin "ValueError.__init__")) from of_decide_eq_true (says_ex c 143 rfl)), (show PySem.W.nsIn K cStatics "thirdparty.any" = some none from of_decide_eq_true (says_ex c 101 rfl)), z_super, hsu, ⟨_, rfl, rfl⟩, by decide +kernel, by decide +kernel, by decide +kernel⟩
  have KE_InvalidCount : ∀ {vsOk : List V → Hp → List PyData → Prop} {k : Nat}, FnOk l.prog w K mg base CX0 k (He.ma K (He.ga K "InvalidCount") "__init__") _ ["self", "given"] (spErr K (He.ga K "InvalidCount") "InvalidCount" vsOk) → Ke l.prog w K mg base k "InvalidCount" (He.ga K "InvalidCount") "InvalidCount" ["self", "given"] vsOk := fun z => ⟨h_InvalidCount, OX_InvalidCount, ⟨_, _, (show PySem.W.findIn K (.ref (He.ga K "InvalidCount")) "__init__" = some (some (.ref (He.ma K (He.ga K "InvalidCount") "__init__"))) from of_decide_eq_true (says_ex c 151 rfl)), (show PySem.W.typeIn K (.ref (He.ma K (He.ga K "InvalidCount") "__init__")) = some (.type "function") from of_decide_eq_true (says_ex c 152 rfl)), bE_InvalidCount, z⟩⟩
  have FC_TooMany : FunC l.prog K mg "__init__" "TooMany.__init__" sE_TooMany (He.ma K (He.ga K "TooMany") "__init__") (He.ga K "TooMany") (ccA K (He.ma K (He.ga K "TooMany") "__init__")) (cdA K (He.ma K (He.ga K "TooMany") "__init__")) _ "ValueError.__init__" := ⟨⟨_, _, _, _, _, _, _, _, rfl, l52⟩, c52, cellB_ok (says_ex c 155 rfl), (let ⟨_, a1, a2, a3, a4, a5, a6, a7, a8, a9⟩ := cdB_ok (says_ex c 153 rfl); ⟨a1, a2, a3, a4, a5, a6, a7, a8, by rw [hfl]; exact a9⟩), (show PySem.W.ks_superIn K (He.ga K "TooMany") (He.ga K "TooMany") "__init__" = some (some (.builtin "ValueError.__init__")) from of_decide_eq_true (says_ex c 156 rfl)), (show PySem.W.nsIn K cStatics "thirdparty.any" = some none from of_decide_eq_true (says_ex c 101 rfl)), z_super, hsu, ⟨_, rfl, rfl⟩, by decide +kernel, by decide +kernel, by decide +kernel⟩
  have KE_TooMany : ∀ {vsOk : List V → Hp → List PyData → Prop} {k : Nat}, FnOk l.prog w K mg base CX0 k (He.ma K (He.ga K "TooMany") "__init__") _ ["self", "most"] (spErr K (He.ga K "TooMany") "TooMany" vsOk) → Ke l.prog w K mg base k "TooMany" (He.ga K "TooMany") "TooMany" ["self", "most"] vsOk := fun z => ⟨h_TooMany, OX_TooMany, ⟨_, _, (show PySem.W.findIn K (.ref (He.ga K "TooMany")) "__init__" = some (some (.ref (He.ma K (He.ga K "TooMany") "__init__"))) from of_decide_eq_true (says_ex c 164 rfl)), (show PySem.W.typeIn K (.ref (He.ma K (He.ga K "TooMany") "__init__")) = some (.type "function") from of_decide_eq_true (says_ex c 165 rfl)), bE_TooMany, z⟩⟩
  have FC_NoRelabelling : FunC l.prog K mg "__init__" "NoRelabelling.__init__" sE_NoRelabelling (He.ma K (He.ga K "NoRelabelling") "__init__") (He.ga K "NoRelabelling") (ccA K (He.ma K (He.ga K "NoRelabelling") "__init__")) (cdA K (He.ma K (He.ga K "NoRelabelling") "__init__")) _ "ValueError.__init__" := ⟨⟨_, _, _, _, _, _, _, _, rfl, l53⟩, c53, cellB_ok (says_ex c 168 rfl), (let ⟨_, a1, a2, a3, a4, a5, a6, a7, a8, a9⟩ := cdB_ok (says_ex c 166 rfl); ⟨a1, a2, a3, a4, a5, a6, a7, a8, by rw [hfl]; exact a9⟩), (show PySem.W.ks_superIn K (He.ga K "NoRelabelling") (He.ga K "NoRelabelling") "__init__" = some (some (.builtin "ValueError.__init__")) from of_decide_eq_true (says_ex c 169 rfl)), (show PySem.W.nsIn K cStatics "thirdparty.any" = some none from of_decide_eq_true (says_ex c 101 rfl)), z_super, hsu, ⟨_, rfl, rfl⟩, by decide +kernel, by decide +kernel, by decide +kernel⟩
  have KE_NoRelabelling : ∀ {vsOk : List V → Hp → List PyData → Prop} {k : Nat}, FnOk l.prog w K mg base CX0 k (He.ma K (He.ga K "NoRelabelling") "__init__") _ ["self", "at"] (spErr K (He.ga K "NoRelabelling") "NoRelabelling" vsOk) → Ke l.prog w K mg base k "NoRelabelling" (He.ga K "NoRelabelling") "NoRelabelling" ["self", "at"] vsOk := fun z => ⟨h_NoRelabelling, OX_NoRelabelling, ⟨_, _, (show PySem.W.findIn K (.ref (He.ga K "NoRelabelling")) "__init__" = some (some (.ref (He.ma K (He.ga K "NoRelabelling") "__init__"))) from of_decide_eq_true (says_ex c 177 rfl)), (show PySem.W.typeIn K (.ref (He.ma K (He.ga K "NoRelabelling") "__init__")) = some (.type "function") from of_decide_eq_true (says_ex c 178 rfl)), bE_NoRelabelling, z⟩⟩
  have FC_PrimesDiffer : FunC l.prog K mg "__init__" "PrimesDiffer.__init__" sE_PrimesDiffer (He.ma K (He.ga K "PrimesDiffer") "__init__") (He.ga K "PrimesDiffer") (ccA K (He.ma K (He.ga K "PrimesDiffer") "__init__")) (cdA K (He.ma K (He.ga K "PrimesDiffer") "__init__")) _ "ValueError.__init__" := ⟨⟨_, _, _, _, _, _, _, _, rfl, l54⟩, c54, cellB_ok (says_ex c 181 rfl), (let ⟨_, a1, a2, a3, a4, a5, a6, a7, a8, a9⟩ := cdB_ok (says_ex c 179 rfl); ⟨a1, a2, a3, a4, a5, a6, a7, a8, by rw [hfl]; exact a9⟩), (show PySem.W.ks_superIn K (He.ga K "PrimesDiffer") (He.ga K "PrimesDiffer") "__init__" = some (some (.builtin "ValueError.__init__")) from of_decide_eq_true (says_ex c 182 rfl)), (show PySem.W.nsIn K cStatics "thirdparty.any" = some none from of_decide_eq_true (says_ex c 101 rfl)), z_super, hsu, ⟨_, rfl, rfl⟩, by decide +kernel, by decide +kernel, by decide +kernel⟩
  have KE_PrimesDiffer : ∀ {vsOk : List V → Hp → List PyData → Prop} {k : Nat}, FnOk l.prog w K mg base CX0 k (He.ma K (He.ga K "PrimesDiffer") "__init__") _ ["self"] (spErr K (He.ga K "PrimesDiffer") "PrimesDiffer" vsOk) → Ke l.prog w K mg base k "PrimesDiffer" (He.ga K "PrimesDiffer") "PrimesDiffer" ["self"] vsOk := fun z => ⟨h_PrimesDiffer, OX_PrimesDiffer, ⟨_, _, (show PySem.W.findIn K (.ref (He.ga K "PrimesDiffer")) "__init__" = some (some (.ref (He.ma K (He.ga K "PrimesDiffer") "__init__"))) from of_decide_eq_true (says_ex c 189 rfl)), (show PySem.W.typeIn K (.ref (He.ma K (He.ga K "PrimesDiffer") "__init__")) = some (.type "function") from of_decide_eq_true (says_ex c 190 rfl)), bE_PrimesDiffer, z⟩⟩
  have FC_NotSingle : FunC l.prog K mg "__init__" "NotSingle.__init__" sE_NotSingle (He.ma K (He.ga K "NotSingle") "__init__") (He.ga K "NotSingle") (ccA K (He.ma K (He.ga K "NotSingle") "__init__")) (cdA K (He.ma K (He.ga K "NotSingle") "__init__")) _ "ValueError.__init__" := ⟨⟨_, _, _, _, _, _, _, _, rfl, l55⟩, c55, cellB_ok (says_ex c 193 rfl), (let ⟨_, a1, a2, a3, a4, a5, a6, a7, a8, a9⟩ := cdB_ok (says_ex c 191 rfl); ⟨a1, a2, a3, a4, a5, a6, a7, a8, by rw [hfl]; exact a9⟩), (show PySem.W.ks_superIn K (He.ga K "NotSingle") (He.ga K "NotSingle") "__init__" = some (some (.builtin "ValueError.__init__")) from of_decide_eq_true (says_ex c 194 rfl)), (show PySem.W.nsIn K cStatics "thirdparty.any" = some none from of_decide_eq_true (says_ex c 101 rfl)), z_super, hsu, ⟨_, rfl, rfl⟩, by decide +kernel, by decide +kernel, by decide +kernel⟩
  have KE_NotSingle : ∀ {vsOk : List V → Hp → List PyData → Prop} {k : Nat}, FnOk l.prog w K mg base CX0 k (He.ma K (He.ga K "NotSingle") "__init__") _ ["self"] (spErr K (He.ga K "NotSingle") "NotSingle" vsOk) → Ke l.prog w K mg base k "NotSingle" (He.ga K "NotSingle") "NotSingle" ["self"] vsOk := fun z => ⟨h_NotSingle, OX_NotSingle, ⟨_, _, (show PySem.W.findIn K (.ref (He.ga K "NotSingle")) "__init__" = some (some (.ref (He.ma K (He.ga K "NotSingle") "__init__"))) from of_decide_eq_true (says_ex c 201 rfl)), (show PySem.W.typeIn K (.ref (He.ma K (He.ga K "NotSingle") "__init__")) = some (.type "function") from of_decide_eq_true (says_ex c 202 rfl)), bE_NotSingle, z⟩⟩
  have D_num := df_mk g0 k0 b0 (ok_num (P := l.prog) (w := w) (base := base) F0 B)
  have D_bel := df_mk g1 k1 b1 (ok_bel F1 D_num)
  have D_chp := df_mk g2 k2 b2 (ok_chp F2 gv D_num)
  have D_isst := df_mk g15 k15 b15 (ok_isst F15 B D_bel)
  have D_first := df_mk g16 k16 b16 (ok_first F16 B cv D_isst)
  have OI := ok_init FI B Tcl D_chp D_bel D_first
  have KF : Kf l.prog w K mg base 5 (He.ga K "Turner") 2 ["self", "prime", "states", "start"] ["start"] gMk (spInit (He.ga K "Turner")) := ⟨⟨_, _, _, Mt, KB, OI⟩⟩
  have K0 : Kd0 l.prog w K mg base 5 (He.ga K "Turner") ["self", "prime", "states", "start"] (spInit (He.ga K "Turner")) := ⟨⟨_, _, _, Mt, VD, BD, OI⟩⟩
  have Ests : Mf l.prog w K mg base 1 (He.ga K "Turner") "states" ["self"] (spSts (He.ga K "Turner")) := ⟨⟨_, _, ⟨am_states, im_states, km_states⟩, bm_states, ok_sts (P := l.prog) (w := w) (base := base) Fm_states B Tcl⟩⟩
  have E_prime : Pf l.prog w K mg base 1 (He.ga K "Turner") "prime" ["self"] (getSp (He.ga K "Turner") "_prime") := ⟨⟨_, _, _, ⟨ap_prime, gp_prime, tp_prime, _, rp_prime⟩, bp_prime, fn_getter (k := 0) lp_prime cp_prime sc_sPrm rfl rfl Tcl.cl Tcl.nP⟩⟩
  have E_start : Pf l.prog w K mg base 1 (He.ga K "Turner") "start" ["self"] (getSp (He.ga K "Turner") "_start") := ⟨⟨_, _, _, ⟨ap_start, gp_start, tp_start, _, rp_start⟩, bp_start, fn_getter (k := 0) lp_start cp_start sc_sStt rfl rfl Tcl.cl Tcl.nT⟩⟩
  have Elen : Ol l.prog w K mg base 1 (He.ga K "Turner") ["self"] (spLen (He.ga K "Turner")) := ⟨⟨_, _, am_len, im_len, bm_len, ok_len (P := l.prog) (w := w) (base := base) Fm_len B Tcl⟩⟩
  have D_cp := df_mk g14 k14 b14 (copied_all (P := l.prog) (w := w) (base := base) F14 B g14 k14 b14 8)
  have KInvalidCount := KE_InvalidCount (okE_InvalidCount FC_InvalidCount OX_InvalidCount EN_InvalidCount na_InvalidCount_given na_InvalidCount_code na_InvalidCount_details D_cp)
  have KTooMany := KE_TooMany (okE_TooMany FC_TooMany OX_TooMany EN_TooMany na_TooMany_most na_TooMany_code na_TooMany_details D_cp)
  have KNoRelabelling := KE_NoRelabelling (okE_NoRelabelling FC_NoRelabelling OX_NoRelabelling EN_NoRelabelling na_NoRelabelling_at na_NoRelabelling_code na_NoRelabelling_details D_cp)
  have KPrimesDiffer := KE_PrimesDiffer (okE_PrimesDiffer FC_PrimesDiffer OX_PrimesDiffer EN_PrimesDiffer na_PrimesDiffer_code na_PrimesDiffer_details)
  have KNotSingle := KE_NotSingle (okE_NotSingle FC_NotSingle OX_NotSingle EN_NotSingle na_NotSingle_code na_NotSingle_details)
  have DAC := df_mk g4 k4 b4 (ok_are F4 B Tcl D_bel E_prime Elen)
  have DCC := df_mk g5 k5 b5 (ok_chc F5 DAC)
  have DFC := df_mk g6 k6 b6 (ok_fc F6 B Tcl E_start Elen)
  have DNC := df_mk g7 k7 b7 (ok_nc F7 B Tcl DCC Ests E_prime Elen)
  have DTT := df_mk g8 k8 b8 (ok_tt F8 B z_sum Tcl DCC Ests E_prime)
  have X_cc := dx_mk g3 k3 b3 (ok_cce F3 D_num KInvalidCount)
  have Lc0 := df_mk g14 k14 b14 (ok_c0 (P := l.prog) (w := w) (base := base) F14 B)
  have Lc1 := df_mk g14 k14 b14 (ok_c1 F14 B Lc0)
  have Lc2 := df_mk g14 k14 b14 (ok_c2 F14 B Lc1)
  have Lcq := df_mk g14 k14 b14 (ok_cq F14 B Lc1)
  have Lcp2 := df_mk g14 k14 b14 (ok_cp2 F14 B Lcq)
  have Lcf := df_mk g14 k14 b14 (ok_cp2f F14 B Lcq)
  have MC : Mc K (He.ga K "Match") := ⟨Cl_Match, na_Match_one, na_Match_other, na_Match_pairs, na_Match_back⟩
  have OMI := ok_mi FI_Match MC Lcp2 Lc0
  have KM : Kdl l.prog w K mg base 5 (He.ga K "Match") ["self", "one", "other", "pairs", "back"] (spMi (He.ga K "Match")) := ⟨⟨_, _, Mk_Match, bI_Match, OMI⟩⟩
  have EPa : Pf l.prog w K mg base 5 (He.ga K "Match") "pairs" ["self"] (spMp (He.ga K "Match")) := ⟨⟨_, _, _, Op_Match_pairs, bp_Match_pairs, ok_mp Fp_Match_pairs MC Lcf⟩⟩
  have EBa : Pf l.prog w K mg base 2 (He.ga K "Match") "back" ["self"] (spMb (He.ga K "Match")) := ⟨⟨_, _, _, Op_Match_back, bp_Match_back, ok_mb Fp_Match_back MC Lc0⟩⟩
  have TN : Bc K (He.ga K "Single") := ⟨⟨Cl_Single, na_Single_turner, na_Single_counts⟩, na_Single_back⟩
  have O3 := ok_ni (w := w) (base := base) FC_Single FI_Answer TN Lc2 Lc0
  have K3 : Kdn l.prog w K mg base 4 (He.ga K "Single") ["self", "turner", "counts", "back"] (spNi (He.ga K "Single")) := ⟨⟨_, _, Mk_Single, bI_Single, O3⟩⟩
  have D_areB := df_mk g4 k4 b4 (ok_areB F4 B Tcl D_bel E_prime Elen)
  have D_trl := df_mk g9 k9 b9 (ok_trl F9 B D_areB DFC DNC)
  have D_tls := df_mk g10 k10 b10 (ok_tls F10 DTT)
  have OHS := ok_hos Fm_Single_holds B TN D_bel D_trl D_tls DNC
  have EHS : Mf l.prog w K mg base 7 (He.ga K "Single") "holds" ["self"] (spHoS (He.ga K "Turner") (He.ga K "Single")) := ⟨⟨_, _, ⟨am_Single_holds, im_Single_holds, km_Single_holds⟩, bm_Single_holds, OHS⟩⟩
  have D_ipr := df_mk g11 k11 b11 (ok_ipr (P := l.prog) (w := w) (base := base) F11 B)
  have OMH := ok_mh Fm_Match_holds B MC Tcl.cl Cl_Single aC_Single E_prime D_ipr K3 EHS DTT
  have EMH : Mf l.prog w K mg base 9 (He.ga K "Match") "holds" ["self"] (spMh (He.ga K "Turner") (He.ga K "Match")) := ⟨⟨_, _, ⟨am_Match_holds, im_Match_holds, km_Match_holds⟩, bm_Match_holds, OMH⟩⟩
  have D_key := df_mk g12 k12 b12 (ok_ky (P := l.prog) (w := w) (base := base) F12 B)
  have X_ckp := dx_mk g13 k13 b13 (ok_ckp F13 DTT KNotSingle KNoRelabelling)
  have O_mt := ok_mt F_match B Tcl hI_MOST_COUNTS aC_Match E_prime KPrimesDiffer X_cc DFC DNC D_key X_ckp KTooMany KM
  have G_mt : DfK l.prog w K mg base 13 "match" ["one", "other", "most"] ["other", "one"] gSwM (spMtG (He.ga K "Turner") (He.ga K "Match")) := ⟨⟨_, _, _, g_match, k_match, KB_match, mt_good O_mt⟩⟩
  have X_md : DdX l.prog w K mg base 13 "match" ["one", "other", "most"] [.int 2000] (spMt K (He.ga K "Turner") (He.ga K "PrimesDiffer") (He.ga K "InvalidCount") (He.ga K "TooMany") (He.ga K "NotSingle") (He.ga K "NoRelabelling") (He.ga K "Match")) := ⟨⟨_, _, _, g_match, k_match, V_match, B_match, O_mt⟩⟩
  have L_bag := df_mk g17 k17 b17 (ok_bag (P := l.prog) (w := w) (base := base) F17 B)
  have L_pull := df_mk g18 k18 b18 (ok_pull (P := l.prog) (w := w) (base := base) F18 B)
  have L_of := df_mk g19 k19 b19 (ok_of F19 B L_pull)
  have L_prime := df_mk g23 k23 b23 (ok_prime F23 L_of)
  have L_figures := df_mk g24 k24 b24 (ok_figs F24 B L_pull)
  have L_mxd := df_mk g20 k20 b20 (ok_mxd F20 B L_pull)
  have L_same := df_mk g21 k21 b21 (same_all (P := l.prog) (w := w) (base := base) F21 B z_str g21 k21 b21 12)
  have L_plain := df_mk g25 k25 b25 (ok_plain F25 B L_pull L_of L_figures)
  have L_made := df_mk g26 k26 b26 (ok_made F26 B cv KF)
  have L_undone := df_mk g27 k27 b27 (ok_lund (P := l.prog) (w := w) (base := base) F27 B)
  have L_joined := df_mk g28 k28 b28 (ok_join (P := l.prog) (w := w) (base := base) F28 B)
  have L_od := df_mk g29 k29 b29 (ok_od (P := l.prog) (w := w) (mg := mg) (base := base) F29)
  have L_sg := df_mk g30 k30 b30 (ok_sgL F30 L_od L_pull L_plain L_joined L_undone)
  have L_f := df_mk g31 k31 b31 (ok_lf (P := l.prog) (w := w) (base := base) F31 B)
  have L_l := df_mk g32 k32 b32 (ok_ll (P := l.prog) (w := w) (base := base) F32 B)
  have L_s := df_mk g33 k33 b33 (ok_ls (P := l.prog) (w := w) (base := base) F33 B z_sum)
  have L_db := df_mk g34 k34 b34 (ok_db F34 B L_pull L_of L_mxd)
  have L_bt := df_mk g35 k35 b35 (ok_bt F35 B L_pull L_of)
  have L_got := df_mk g22 k22 b22 (ok_got (P := l.prog) (w := w) (base := base) F22 h_TurnError h_Missing h_NothingLeft)
  have L_told := df_mk g36 k36 b36 (ok_mtl F36 MC EPa EBa)
  exact ok_law l37 c37 TB_law B.1 B.range MC.cl L_bag L_prime L_of L_sg L_plain L_undone L_db L_bt L_f L_l L_s L_made L_same L_got G_mt EMH CAT_TooMany CAT_NotSingle CAT_NoRelabelling L_told X_md

def looseL0 : List PySem.Str := ["_wall", "copied", "TurnError", "Missing", "InvalidPrime", "InvalidFigure", "InvalidSetting", "InvalidCount", "InvalidState", "InvalidStart", "InvalidText", "InvalidCounts", "PrimesDiffer", "TooMany", "NotSingle", "NoRelabelling", "UnknownState", "NothingLeft", "PRIMES", "MOST_DIALS", "is_number", "is_below", "check_prime", "check_count", "is_setting", "check_setting", "are_counts", "_check_counts", "first_counts", "next_counts"]
def looseL1 : List PySem.Str := ["turn_total", "MOST_COUNTS", "_is_trail", "_totals", "Answer", "Single", "_is_pair", "Match", "_check_pair", "_key", "match", "DIGITS", "is_numeral", "MOST_DIGITS", "_is_state", "_first_wrong", "_pairs_behind", "_product_states", "_state_text", "_read_number", "_halves", "_read_state", "Turner", "_law_bag", "_law_pull", "_law_of", "_law_mixed", "_law_same", "_law_got", "_law_prime"]
def looseL2 : List PySem.Str := ["_law_figures", "_law_plain", "_law_made", "_law_undone", "_law_joined", "_law_odometer", "_law_single", "_law_first", "_law_later", "_law_sum", "_law_doubled", "_law_bent", "_law_match_told"]
def looseL : List PySem.Str := looseL0 ++ looseL1 ++ looseL2
abbrev RL : PySem.W.OpenRow := PySem.W.OpenLaw.row PySem.Challenge.rw_lowturns_k54_whole_matches_by_counts
abbrev hkL : PySem.W.Hook := hookQ dsL nsL fsL exL
def obL (s : PySem.W.SharedT) : AlP := obQ dsL nsL fsL exL (HandSHeadRun.getT s)
theorem obL_eq (s : PySem.W.SharedT) : obL s = hkL.obs s.abs := obQ_eq dsL nsL fsL exL s
theorem runL (w : World) : HandSHeadRun.RunEq RL (PySem.W.view RL.prog [82]) hkL obL 20000 looseL w := by
  intro os
  kernel_rfl
end Tw
open PySem PySem.W PySem.Calls PyProof.Rows in
set_option maxRecDepth 100000 in
set_option maxHeartbeats 0 in
theorem PySem.Challenge.cw_lowturns_k54_whole_matches_by_counts_holds : PySem.Challenge.rw_lowturns_k54_whole_matches_by_counts.Holds := by
  w_on; o_law
  refine HandSHeadRun.head_any (r := OpenLaw.row PySem.Challenge.rw_lowturns_k54_whole_matches_by_counts) (q := view (OpenLaw.row PySem.Challenge.rw_lowturns_k54_whole_matches_by_counts).prog [82]) (H := Tw.hkL) (ob := Tw.obL) (M := 20000) (loose := Tw.looseL) (d := HandSHeadRun.topDef (OpenLaw.row PySem.Challenge.rw_lowturns_k54_whole_matches_by_counts).prog 82) (kwd := []) Tw.obL_eq
    (by kernel_rfl) (fun s => by kernel_rfl) Tw.runL (by kernel_rfl) (by kernel_rfl) (by kernel_rfl) (by rfl) (by first | assumption | decide +kernel) (by decide +kernel) ⟨rfl, rfl, rfl, rfl, rfl, by decide +kernel⟩ ?hw ?hc
  case hw => w_witness2
  case hc =>
    refine LamX.walk_ofTsE (l := PySem.Challenge.rw_lowturns_k54_whole_matches_by_counts) (n := 63) (k := 24) (x := "_law_script") (CX := fun _ => L2.CX0) rfl (by decide) (by kernel_rfl) ⟨rfl, by decide, by decide⟩ ?F (fun _ _ _ _ _ z => z)
    intro w mg fa h Y G hmg0
    obtain ⟨K, c⟩ := Y
    have hmg : mg ("law" : PySem.Str) = some (.ref fa) := by
      have e : (HandSHeadRun.topDef (OpenLaw.row PySem.Challenge.rw_lowturns_k54_whole_matches_by_counts).prog 82).name = ("law" : PySem.Str) := by kernel_rfl
      rw [← e]
      exact hmg0
    exact ⟨K, c.kin, Tw.all_t (l := PySem.Challenge.rw_lowturns_k54_whole_matches_by_counts) (w := w) (by decide +kernel) (by decide +kernel) c G hmg⟩
namespace Tw


end Tw
