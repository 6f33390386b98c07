import PyProof.Rows.All
import Wide.All
import OpenK.AllK
import Wide.FinOn
import HandS.ForMost
import HandS.IsInst
import KE.GoesEnum
import HandS.Star
import HandS.Defaults
import HandS.MakeKw
import HandS.MakeKwOnly
import HandS.Property
import HandS.TupAny
import HandS.TupMul
import HandS.ClsMeth
import HandS.Zip
import HandS.OwnEq
import PyProof.InstNe
import HandS.Deep
import HandS.Style
import HandS.Dict
import KE.KDictDisplayH
import HandS.FStr
import HandS.NoneIn
import HandS.CallLocal
import PyProof.Draws
import KE.GoesMore
import HandS.Iter
import KE.KExcSuper
import PyProof.ExcBaseAll.ValueError
import HandS.ExcInit
import HandS.Nested
import HandS.ExcField
import HandS.TryMany
import PyProof.ListMulRoad
import PyProof.FactsAll.tuple_2
import KE.KSuper
import KE.KSuperObj
import KE.KStateDown
import HandS.Head0
import HandS.Head1
import HandS.Head2
import HandS.HeadEnd
import HandS.HeadHook1
import HandS.HeadHook2
import KE.KExcIs
import KE.KTypeName
import HandS.ExcIs
import PyProof.ReprNest
import PyProof.ReprHeadsTuple
import HandS.FStrTup
import KE.KTryMore
import PyProof.StrLawsRepr
import PyProof.FitsInt
import HandS.WordsExc
import KE.KLam
import HandS.Lambda
import HandS.HeadHook4
import HandS.EndTab
import HandS.HeadWalk
import HandS.Rev
import KE.KExcInit
import PyProof.ExcBaseAll.LookupError
import PyProof.ExcBaseAll.IndexError
import HandS.SortInts
import HandS.DictTup
import KE.KDictWalk
import PyProof.SumWalkG
import PyProof.Walk
import PyProof.WalkLemmas
import HandS.Conv
import HandS.TupSets
import HandS.SetFor
import HandS.Strs
import KE.GoesRaise
import PyProof.StrBlock2
import HandS.ExcValue
import PySem.Challenge.RW_lowturns_k18_whole_first_differences
set_option Elab.async false
set_option linter.all false
set_option maxRecDepth 100000
set_option maxHeartbeats 4000000
/-! The terms of bodies by their syntax: what a def's context knows of its names (Nm), rules over it, and the steps that choose a rule. -/
namespace Tw
open PySem PySem.Spec PyProof.Rows L2

structure Df (P : Program) (w : World) (K : PySem.W.Frag) (mg : Str → Option Value) (base : Heap) (k : Nat) (x : Str) (ps : List Str) (sp : Sp) : Prop where
  ex : ∃ f fd, mg x = some (.ref f) ∧ PySem.W.keepIn K (.ref f) = true ∧ Binds K fd ps [] ∧ FnOk P w K mg base CX0 k f fd ps sp
def tD (sp : Sp) (t : TA) : TE := fun σ H Q => t σ H fun vs H1 => sp vs H1 Q E0

/-- names that are read, with their slots; names that are stored; names of the module and built-in ones -/
structure Nm (P : Program) (w : World) (K : PySem.W.Frag) (mg : Str → Option Value) (base : Heap) (j : Nat) (X : Cx) (NS WS : List (Str × Nat)) (G : List Str) : Prop where
  ep : X.prog = P
  ew : X.w = w
  eK : X.K = K
  em : X.mg = mg
  eb : X.base = base
  room : Room j X.A
  calm : X.calm = true
  nd : X.N.Nodup
  vis : ∀ x i, (x, i) ∈ NS → X.N[i]? = some x ∧ Vis X.env.scope x ∧ (x == ("__debug__" : Str)) = false ∧ (x == ("__classdict__" : Str)) = false
  wr : ∀ x i, (x, i) ∈ WS → X.N[i]? = some x ∧ Loc X.env.scope x ∧ (X.fn x = true ∨ X.env.scope.names.lookup x = some .local)
  gl : ∀ x, x ∈ G → Gl X x ∧ (x == ("__debug__" : Str)) = false ∧ x ≠ ("__name__" : Str)

def nmB (N : List Str) (NS : List (Str × Nat)) (G : List Str) (sc : Scope) : Bool :=
  decide N.Nodup && NS.all (fun p => decide (N[p.2]? = some p.1) && (decide (sc.names.lookup p.1 = some .local) || decide (sc.names.lookup p.1 = some .cell)) && !(p.1 == ("__debug__" : Str)) && !(p.1 == ("__classdict__" : Str)))
    && G.all (fun x => decide (sc.names.lookup x = some .globalImplicit) && !(x == ("__debug__" : Str)) && decide (x ≠ ("__name__" : Str)))
theorem nm_of {CX : CXT} {P : Program} {w : World} {K : PySem.W.Frag} {mg : Str → Option Value} {base : Heap} {j : Nat} {N : List Str} {NS : List (Str × Nat)} {G : List Str} {qual : Str} {scope : Scope} {f : Addr} {cd : Value} {A : Around} {outer : List Env} {s : Shared} {H : Hp} {E : XK}
    (h : nmB N NS G scope = true) (hr : Room j (A.deeper (envOfC qual scope s.heap.objs.size f cd))) : Nm P w K mg base j (cxOf CX P w K mg base N qual scope f cd A outer s H E).nox NS NS G := by
  unfold nmB at h
  simp only [Bool.and_eq_true, Bool.or_eq_true, Bool.not_eq_true', decide_eq_true_eq, List.all_eq_true] at h
  obtain ⟨⟨h1, h2⟩, h3⟩ := h
  refine ⟨rfl, rfl, rfl, rfl, rfl, hr, rfl, h1, fun x i hm => ?_, fun x i hm => ?_, fun x hm => ?_⟩
  · obtain ⟨⟨⟨a, b⟩, c⟩, d⟩ := h2 (x, i) hm
    refine ⟨a, ?_, c, d⟩
    rcases b with b | b
    · exact .inl b
    · exact .inr (.inl b)
  · obtain ⟨⟨⟨a, b⟩, c⟩, d⟩ := h2 (x, i) hm
    exact ⟨a, b, .inl rfl⟩
  · obtain ⟨⟨a, b⟩, c⟩ := h3 x hm
    exact ⟨a, b, c⟩

section
variable {P : Program} {w : World} {K : PySem.W.Frag} {mg : Str → Option Value} {base : Heap} {j k : Nat} {X : Cx} {NS WS : List (Str × Nat)} {G : List Str} {x : Str} {i : Nat} {p pos : Pos} {e : Expr} {es : List Expr} {t : TA} {ps : List Str} {sp : Sp} {te : TE}
theorem n_v (h : Nm P w K mg base j X NS WS G) (hm : (x, i) ∈ NS) : PE X (.Name x pos) (tVar i) := pe_var (h.vis x i hm).1 (h.vis x i hm).2.1 (h.vis x i hm).2.2.1 (h.vis x i hm).2.2.2
theorem n_g (h : Nm P w K mg base j X NS WS G) (hm : (x, i) ∈ WS) : PG X (.Name x pos) (gName i) := pg_name h.nd (h.wr x i hm).1 (h.wr x i hm).2.1 (h.wr x i hm).2.2
theorem n_d (h : Nm P w K mg base j X NS WS G) (D : Df P w K mg base k x ps sp) (hk : k ≤ j) (hg : x ∈ G) (ha : PA X (e :: es) t)
    (he : starEach (e :: es) X.env = (false, eval e X.env) :: starEach es X.env := by rfl) (hpl : (backTo pos (starEach es X.env)).any (·.1) = false := by rfl) :
    PE X (.Call (.Name x p) (e :: es) [] pos) (tD sp t) := by
  obtain ⟨h1, h2, h3, h4, h5, hr, _, _, _, _, hgl⟩ := h
  subst h1 h2 h3 h4 h5
  obtain ⟨f, fd, hm, hkp, hb, F⟩ := D.ex
  refine ⟨fun pins s σ H Q I h => ?_⟩
  refine (pe_call F (hr.mono hk) (hgl x hg).1 hm hkp hb .nil pass0 ha (hgl x hg).2.1 he hpl).run pins s σ H Q I ?_
  show t σ H fun vs H1 => sp (vs ++ []) H1 Q E0
  simp only [List.append_nil]
  exact h
theorem n_b {id : String} {r : List V → Hp → VK → Prop} (h : Nm P w K mg base j X NS WS G) (hm : mg x = none) (hc : CallR X (.builtin id) r) (hv : bootBuiltins x = some (.builtin id)) (hg : x ∈ G) (ha : PA X (e :: es) t)
    (he : starEach (e :: es) X.env = (false, eval e X.env) :: starEach es X.env := by rfl) (hpl : (backTo pos (starEach es X.env)).any (·.1) = false := by rfl) : PE X (.Call (.Name x p) (e :: es) [] pos) (tCB r t) :=
  pe_callB hc (h.gl x hg).1 (by rw [h.em]; exact hm) hv ha (h.gl x hg).2.2 (h.gl x hg).2.1 he hpl
theorem n_t {T : String} {r : List V → Hp → VK → Prop} (h : Nm P w K mg base j X NS WS G) (hm : mg x = none) (hc : CallR X (.type T) r) (hv : bootBuiltins x = some (.type T)) (hg : x ∈ G) (ha : PA X (e :: es) t)
    (he : starEach (e :: es) X.env = (false, eval e X.env) :: starEach es X.env := by rfl) (hpl : (backTo pos (starEach es X.env)).any (·.1) = false := by rfl) : PE X (.Call (.Name x p) (e :: es) [] pos) (tCB r t) :=
  pe_callTy hc (h.gl x hg).1 (by rw [h.em]; exact hm) hv ha (h.gl x hg).2.2 (h.gl x hg).2.1 he hpl
theorem n_for {tg iter : Expr} {body : List Stmt} {wi : TI} {g : TG} {tb : TS} (h : Nm P w K mg base j X NS WS G) (hp : PassesOwn (model X.prog X.w) X.A X.env X.xe) (hi : PI X tg iter wi) (hg : PG X tg g) (hb : PSs X body tb)
    (hs : ∀ x, foldedSetIterable iter X.env x = pure x := by intro _; rfl) : PS X (.For tg iter body [] pos) (tFor wi g tb) := ps_for hp h.calm hi hg hb hs
theorem n_rng {tg a : Expr} (h : Nm P w K mg base j X NS WS G) (hm : mg "range" = none) (hg : ("range" : Str) ∈ G) (ha : PA X [a] t) (hs : starEach [a] X.env = [(false, eval a X.env)] := by rfl) : PI X tg (.Call (.Name "range" p) [a] [] pos) (iRng1 t) :=
  pi_range1 (h.gl _ hg).1 (by rw [h.em]; exact hm) ha hs
end
theorem p0 {α : Type} {a : α} {r : List α} : a ∈ a :: r := List.mem_cons_self
theorem pS {α : Type} {a b : α} {r : List α} (h : a ∈ r) : a ∈ b :: r := List.mem_cons_of_mem _ h
theorem ex_mk {α : Type} {A B : α → Prop} {t : α} (h1 : A t) (h2 : B t) : ∃ t, A t ∧ B t := ⟨t, h1, h2⟩

/-- the built-in names that the text uses stand for the built-ins -/
structure Bn (mg : Str → Option Value) : Prop where
  len : mg "len" = none
  int : mg "int" = none
  abs : mg "abs" = none
  list : mg "list" = none
  tuple : mg "tuple" = none
  range : mg "range" = none
  isinstance : mg "isinstance" = none
  all : mg "all" = none
  zip : mg "zip" = none
  enumerate : mg "enumerate" = none
  bool : mg "bool" = none
theorem boot_abs : bootBuiltins "abs" = some (.builtin "abs") := by decide +kernel

theorem cut {t u : TS} {D : Ends} {σ : L2.St} {H : Hp} {Pv : L2.St → Hp → Prop} (h2 : ∀ σ' H', Pv σ' H' → u D σ' H') (h : ∀ N : L2.St → Hp → Prop, (∀ σ' H', Pv σ' H' → N σ' H') → t { D with nx := N } σ H) : tSeq t u D σ H := h (u D) h2

/-! ### a comprehension's block -/
def kNames (scD scope : Scope) : List (Str × NameKind) := scope.names.map fun (n, k) => if (k == .free && scD.kind == .function && scD.names.lookup n == some .cell) then (n, .cell) else (n, k)
def nmbB (N : List Str) (NS WS : List (Str × Nat)) (G : List Str) (scD scope : Scope) : Bool :=
  NS.all (fun p => decide (N[p.2]? = some p.1) && (decide ((kNames scD scope).lookup p.1 = some .local) || decide ((kNames scD scope).lookup p.1 = some .cell) || decide ((kNames scD scope).lookup p.1 = some .free)) && !(p.1 == ("__debug__" : Str)) && !(p.1 == ("__classdict__" : Str)))
    && WS.all (fun p => decide (N[p.2]? = some p.1) && decide ((kNames scD scope).lookup p.1 = some .local))
    && G.all (fun x => decide ((kNames scD scope).lookup x = some .globalImplicit) && !(x == ("__debug__" : Str)) && decide (x ≠ ("__name__" : Str)))
theorem nm_blk {P : Program} {w : World} {K : PySem.W.Frag} {mg : Str → Option Value} {base : Heap} {j : Nat} {X : Cx} {NS WS NS' WS' : List (Str × Nat)} {G G' : List Str} {N : List Str} {scD scope : Scope} {s : Shared} {H : Hp} {C : Addr} {cl : List (Str × Addr)} {fp : List Addr}
    (h : Nm P w K mg base j X NS WS G) (eN : X.N = N) (eS : X.env.scope = scD) (hb : nmbB N NS' WS' G' scD scope = true) : Nm P w K mg base j (X.blk s H scope (compEnvC scope cl C X.env) fp) NS' WS' G' := by
  have ek : (compEnvC scope cl C X.env).scope.names = kNames scD scope := by
    subst eS
    rfl
  unfold nmbB at hb
  simp only [Bool.and_eq_true, Bool.or_eq_true, Bool.not_eq_true', decide_eq_true_eq, List.all_eq_true] at hb
  obtain ⟨⟨h1, h2⟩, h3⟩ := hb
  refine ⟨h.ep, h.ew, h.eK, h.em, h.eb, h.room, h.calm, h.nd, fun x i hm => ?_, fun x i hm => ?_, fun x hm => ?_⟩
  · obtain ⟨⟨⟨a, b⟩, c⟩, d⟩ := h1 (x, i) hm
    refine ⟨by show X.N[i]? = some x; rw [eN]; exact a, ?_, c, d⟩
    show (compEnvC scope cl C X.env).scope.names.lookup x = some .local ∨ (compEnvC scope cl C X.env).scope.names.lookup x = some .cell ∨ (compEnvC scope cl C X.env).scope.names.lookup x = some .free
    rw [ek]
    rcases b with (b | b) | b
    · exact .inl b
    · exact .inr (.inl b)
    · exact .inr (.inr b)
  · obtain ⟨a, b⟩ := h2 (x, i) hm
    refine ⟨by show X.N[i]? = some x; rw [eN]; exact a, .inl ?_, .inr ?_⟩
    · show (compEnvC scope cl C X.env).scope.names.lookup x = some .local
      rw [ek]; exact b
    · show (compEnvC scope cl C X.env).scope.names.lookup x = some .local
      rw [ek]; exact b
  · obtain ⟨⟨a, b⟩, c⟩ := h3 x hm
    refine ⟨?_, b, c⟩
    show (compEnvC scope cl C X.env).scope.names.lookup x = some .globalImplicit
    rw [ek]; exact a


section
variable {P : Program} {w : World} {K : PySem.W.Frag} {mg : Str → Option Value} {base : Heap} {j k : Nat} {X : Cx} {NS WS NS' WS' : List (Str × Nat)} {G G' : List Str} {N : List Str} {scD scope : Scope} {pos spos : Pos}
/-- [elt for tg in iter], tg a name in slot i: its parts in any context that knows the block's names -/
theorem n_lc {elt tg iter : Expr} {own : List (Str × Nat)} {wi : TI} {g : TG} {te : TE} (h : Nm P w K mg base j X NS WS G) (eN : X.N = N) (eS : X.env.scope = scD) (hk : blkC N scD scope own = true) (hb : nmbB N NS' WS' G' scD scope = true) (hi : PI X tg iter wi)
    (hg : ∀ X', Nm P w K mg base j X' NS' WS' G' → PG X' tg g) (he : ∀ X', Nm P w K mg base j X' NS' WS' G' → PE X' elt te) (hs : ∀ x, foldedSetIterable iter X.env x = pure x := by intro _; rfl) :
    PE X (.ListComp elt [⟨tg, iter, [], 0⟩] scope pos) (tLc wi g tYes te (own.map (·.2))) :=
  pe_lc h.calm h.nd hi (by subst eN eS; exact blkOk_by hk) (fun s H C cl fp => hg _ (nm_blk h eN eS hb)) (fun _ _ _ _ _ => pts_nil) (fun s H C cl fp => he _ (nm_blk h eN eS hb)) hs
end

theorem yes_ {σ : L2.St} {H : Hp} {A B : Hp → Prop} (h : A H) : tYes σ H (fun b H3 => if b = true then A H3 else B H3) := by
  show (if true = true then A H else B H)
  exact iteT h
/-! ### the bag of draws at b, its cells at l -/
def Bag (H : Hp) (b l : Addr) : Prop := ∃ (i r m t : Int) (ns : List Int), H b = some (.lst [.ref l, .int i, .int r, .int m, .int t]) ∧ H l = some (.lst (ns.map V.int)) ∧ 0 ≤ i ∧ 0 ≤ r ∧ 0 ≤ m ∧ m < 2147483647
/-- all but b stays -/
def Keep (b : Addr) (H H' : Hp) : Prop := ∀ a o, a ≠ b → H a = some o → H' a = some o
/-- all but b stays; b is a bag still -/
def Stp (b l : Addr) (H H' : Hp) : Prop := Keep b H H' ∧ Bag H' b l
theorem keep_rfl {b : Addr} {H : Hp} : Keep b H H := fun _ _ _ e => e
theorem keep_trans {b : Addr} {H H1 H2 : Hp} (x : Keep b H H1) (y : Keep b H1 H2) : Keep b H H2 := fun a o n e => y a o n (x a o n e)
theorem keep_new {b p : Addr} {H : Hp} {o : HO} (h : H p = none) : Keep b H (upd H p o) := fun a u _ e => by rw [upd_ne (ne_of_none e h)]; exact e
theorem keep_add {b p : Addr} {H H1 : Hp} {o : HO} (x : Keep b H H1) (h : H1 p = none) : Keep b H (upd H1 p o) := keep_trans x (keep_new h)
/-- p was new at H; it is written again -/
theorem keep_put {b p : Addr} {H H1 : Hp} {o : HO} (x : Keep b H H1) (h : H p = none) : Keep b H (upd H1 p o) := fun a u n e => by rw [upd_ne (ne_of_none e h)]; exact x a u n e
theorem same_keep {b : Addr} {H H1 : Hp} (x : Same H H1) : Keep b H H1 := fun a o _ e => x a o e
theorem same_new {p : Addr} {H : Hp} {o : HO} (h : H p = none) : Same H (upd H p o) := fun a u e => by rw [upd_ne (ne_of_none e h)]; exact e
theorem same_add {p : Addr} {H H1 : Hp} {o : HO} (x : Same H H1) (h : H1 p = none) : Same H (upd H1 p o) := Same.trans x (same_new h)
theorem same_put {p : Addr} {H H1 : Hp} {o : HO} (x : Same H H1) (h : H p = none) : Same H (upd H1 p o) := fun a u e => by rw [upd_ne (ne_of_none e h)]; exact x a u e
section
variable {b l a p : Addr} {H H1 H' : Hp} {o : HO}
theorem Stp.trans {H2 : Hp} (x : Stp b l H H1) (y : Stp b l H1 H2) : Stp b l H H2 := ⟨keep_trans x.1 y.1, y.2⟩
theorem Bag.stp (x : Bag H b l) : Stp b l H H := ⟨keep_rfl, x⟩
theorem Bag.apart (x : Bag H b l) : l ≠ b := by
  obtain ⟨i, r, m, t, ns, hb, hl, _⟩ := x
  exact ne_of hl hb (by intro q; injection q with q; cases ns <;> simp at q)
theorem Bag.ne (x : Bag H b l) (h : H a = none) : a ≠ b := fun e => by
  obtain ⟨_, _, _, _, _, hb, _⟩ := x
  rw [e, hb] at h
  cases h
theorem Bag.ne2 (x : Bag H b l) (h : H a = none) : a ≠ l := fun e => by
  obtain ⟨_, _, _, _, _, _, hl, _⟩ := x
  rw [e, hl] at h
  cases h
theorem Bag.same (x : Bag H b l) (h : Same H H') : Bag H' b l := by
  obtain ⟨i, r, m, t, ns, hb, hl, q⟩ := x
  exact ⟨i, r, m, t, ns, h _ _ hb, h _ _ hl, q⟩
theorem Bag.new (x : Bag H b l) (h : H p = none) : Bag (upd H p o) b l := x.same (same_new h)
theorem Bag.put (x : Bag H b l) (h1 : p ≠ b) (h2 : p ≠ l) : Bag (upd H p o) b l := by
  obtain ⟨i, r, m, t, ns, hb, hl, q⟩ := x
  exact ⟨i, r, m, t, ns, by rw [upd_ne h1.symm]; exact hb, by rw [upd_ne h2.symm]; exact hl, q⟩
/-- a tuple stands apart from the bag -/
theorem Bag.tup {xs : List V} (x : Bag H b l) (h : H a = some (.tup xs)) : a ≠ b := fun e => by
  obtain ⟨_, _, _, _, _, hb, _⟩ := x
  rw [e, hb] at h
  cases h
theorem Bag.insA {C dx : Addr} {fs : List (Str × V)} (x : Bag H b l) (h : H a = some (.ins C dx fs)) : a ≠ b := fun e => by
  obtain ⟨_, _, _, _, _, hb, _⟩ := x
  rw [e, hb] at h
  cases h
theorem stp_same (x : Bag H b l) (h : Same H H') : Stp b l H H' := ⟨same_keep h, x.same h⟩
theorem Stp.same {H2 : Hp} (x : Stp b l H H1) (h : Same H1 H2) : Stp b l H H2 := ⟨keep_trans x.1 (same_keep h), x.2.same h⟩
theorem Stp.add (x : Stp b l H H1) (h : H1 p = none) : Stp b l H (upd H1 p o) := ⟨keep_add x.1 h, x.2.new h⟩
theorem Stp.put (x : Stp b l H H1) (y : Bag H b l) (h : H p = none) : Stp b l H (upd H1 p o) := ⟨keep_put x.1 h, x.2.put (y.ne h) (y.ne2 h)⟩
theorem keep_free (e : Keep b H H') (n : p ≠ b) (h : H' p = none) : H p = none := by
  cases q : H p with
  | none => rfl
  | some o =>
    rw [e p o n q] at h
    cases h
theorem Stp.free (e : Stp b l H H') (h : H' p = none) : H p = none := keep_free e.1 (e.2.ne h) h
end

def spBag (K : PySem.W.Frag) : Sp := fun vs H Q _ => ∃ (a : Addr) (ns : List Int), vs = [.ref a] ∧ SqL K H a (ns.map V.int) ∧
  ∀ H' b l, Same H H' → H b = none → Bag H' b l → Q (.ref b) H'
def spPull : Sp := fun vs H Q _ => ∃ (b l : Addr) (n : Int), vs = [.ref b, .int n] ∧ Bag H b l ∧ 0 < n ∧ n < 1073741824 ∧
  ∀ H' (d : Int), Stp b l H H' → 0 ≤ d → d < n → Q (.int d) H'
def spOf : Sp := fun vs H Q _ => ∃ (b l a : Addr) (xs : List V), vs = [.ref b, .ref a] ∧ Bag H b l ∧ H a = some (.lst xs) ∧ a ≠ b ∧ 0 < xs.length ∧ xs.length ≤ 1000 ∧
  ∀ H' (d : Nat) x, Stp b l H H' → xs[d]? = some x → Q x H'
def IsP (p : Int) : Prop := p = 2 ∨ p = 3 ∨ p = 5 ∨ p = 7
def spPrime : Sp := fun vs H Q _ => ∃ (b l : Addr), vs = [.ref b] ∧ Bag H b l ∧ ∀ H' p, Stp b l H H' → IsP p → Q (.int p) H'
def spFigs : Sp := fun vs H Q _ => ∃ (b l : Addr) (p n : Int), vs = [.ref b, .int p, .int n] ∧ Bag H b l ∧ 0 < p ∧ p < 1000 ∧ 0 ≤ n ∧ n < 1000 ∧
  ∀ H' t (ds : List Int), Stp b l H H' → H t = none → H' t = some (.tup (ds.map V.int)) → (ds.length : Int) = n → (∀ d ∈ ds, 0 ≤ d ∧ d < p) → Q (.ref t) H'
/-- a state as it stands: a pair of its turn and the tuple of its targets -/
def StAt (H : Hp) (v : V) (s : Int × List Int) : Prop := ∃ a g, v = .ref a ∧ H a = some (.tup [.int s.1, .ref g]) ∧ H g = some (.tup (s.2.map V.int))
def StsAt (H : Hp) (xs : List V) (M : List (Int × List Int)) : Prop := xs.length = M.length ∧ ∀ (i : Nat) x s, xs[i]? = some x → M[i]? = some s → StAt H x s
structure OkM (p n : Int) (M : List (Int × List Int)) : Prop where
  turn : ∀ s ∈ M, 0 ≤ s.1 ∧ s.1 < p
  many : ∀ s ∈ M, (s.2.length : Int) = p
  goal : ∀ s ∈ M, ∀ g ∈ s.2, 0 ≤ g ∧ g < n
theorem StAt.keep {b l : Addr} {H H' : Hp} {v : V} {s : Int × List Int} (x : StAt H v s) (B : Bag H b l) (k : Keep b H H') : StAt H' v s := by
  obtain ⟨a, g, rfl, h1, h2⟩ := x
  exact ⟨a, g, rfl, k a _ (B.tup h1) h1, k g _ (B.tup h2) h2⟩
theorem StsAt.keep {b l : Addr} {H H' : Hp} {xs : List V} {M : List (Int × List Int)} (x : StsAt H xs M) (B : Bag H b l) (k : Keep b H H') : StsAt H' xs M := ⟨x.1, fun i v s h1 h2 => (x.2 i v s h1 h2).keep B k⟩
theorem StAt.same {H H' : Hp} {v : V} {s : Int × List Int} (x : StAt H v s) (k : Same H H') : StAt H' v s := by
  obtain ⟨a, g, rfl, h1, h2⟩ := x
  exact ⟨a, g, rfl, k a _ h1, k g _ h2⟩
theorem StsAt.same {H H' : Hp} {xs : List V} {M : List (Int × List Int)} (x : StsAt H xs M) (k : Same H H') : StsAt H' xs M := ⟨x.1, fun i v s h1 h2 => (x.2 i v s h1 h2).same k⟩
theorem StsAt.snoc {H : Hp} {xs : List V} {M : List (Int × List Int)} {v : V} {s : Int × List Int} (x : StsAt H xs M) (y : StAt H v s) : StsAt H (xs ++ [v]) (M ++ [s]) := by
  refine ⟨by simp [x.1], fun i u t h1 h2 => ?_⟩
  by_cases c : i < xs.length
  · rw [List.getElem?_append_left c] at h1
    rw [List.getElem?_append_left (by rw [← x.1]; exact c)] at h2
    exact x.2 i u t h1 h2
  · rw [List.getElem?_append_right (by omega)] at h1
    rw [List.getElem?_append_right (by rw [← x.1]; omega), ← x.1] at h2
    have e : i - xs.length = 0 := by
      rcases Nat.eq_zero_or_pos (i - xs.length) with e | e
      · exact e
      · rw [List.getElem?_eq_none (by simp; omega)] at h1; cases h1
    rw [e] at h1 h2
    obtain rfl := Option.some.inj h1
    obtain rfl := Option.some.inj h2
    exact y
theorem StAt.lst {H : Hp} {v : V} {s : Int × List Int} {r : Addr} {ys zs : List V} (x : StAt H v s) (h : H r = some (.lst ys)) : StAt (upd H r (.lst zs)) v s := by
  obtain ⟨a, g, rfl, h1, h2⟩ := x
  have n1 : a ≠ r := ne_of h1 h (by intro q; cases q)
  have n2 : g ≠ r := ne_of h2 h (by intro q; cases q)
  exact ⟨a, g, rfl, by rw [upd_ne n1]; exact h1, by rw [upd_ne n2]; exact h2⟩
theorem StsAt.lst {H : Hp} {xs : List V} {M : List (Int × List Int)} {r : Addr} {ys zs : List V} (x : StsAt H xs M) (h : H r = some (.lst ys)) : StsAt (upd H r (.lst zs)) xs M := ⟨x.1, fun i v s h1 h2 => (x.2 i v s h1 h2).lst h⟩
theorem IsP.two {p : Int} (h : IsP p) : 2 ≤ p ∧ p ≤ 7 := by
  rcases h with h | h | h | h <;> omega
def spPlain : Sp := fun vs H Q _ => ∃ (b l : Addr) (p n : Int), vs = [.ref b, .int p, .int n] ∧ Bag H b l ∧ IsP p ∧ 0 < n ∧ n < 100 ∧
  ∀ H' t r xs M (st : Int), Stp b l H H' → H t = none → H r = none → H' t = some (.tup [.int p, .ref r, .int st]) → H' r = some (.lst xs) → StsAt H' xs M → OkM p (M.length : Int) M → 0 < M.length → (M.length : Int) ≤ n → 0 ≤ st → st < (M.length : Int) → Q (.ref t) H'
end Tw
namespace Tw
open PySem PySem.Spec PyProof.Rows L2

/-! ### zip of a tuple and a list -/
def ItzM (K : PySem.W.Frag) (a b : Addr) : It where
  go := fun i H => ∃ (xs ys : List V) (x y : V), SqT K H a xs ∧ SqL K H b ys ∧ xs[i]? = some x ∧ ys[i]? = some y
  yld := fun i H v H' => ∃ T x y, v = .ref T ∧ H T = none ∧ H' = upd H T (.tup [x, y]) ∧ (∀ xs, SqT K H a xs → xs[i]? = some x) ∧ (∀ ys, SqL K H b ys → ys[i]? = some y)
  stop := fun i H => ∃ xs ys : List V, SqT K H a xs ∧ SqL K H b ys ∧ xs.length = ys.length ∧ xs.length = i
def zM (a b : Addr) (N : Nat) (i : Nat) (h : Heap) : Prop :=
  IsZip h (N + 4) (N + 2) (N + 3) .none ∧ IsTupOf2 h (N + 2) (.ref N) (.ref (N + 1)) ∧ (∃ x y, IsTupOf2 h (N + 3) x y) ∧ h.IsTupleIter N a i ∧ h.IsListIter (N + 1) b i
theorem five {N c : Nat} (h : c ∈ [N + 4, N + 2, N + 3, N, N + 1]) : c = N + 4 ∨ c = N + 2 ∨ c = N + 3 ∨ c = N ∨ c = N + 1 := by simpa using h
theorem fiveLe {N c : Nat} (h : c ∈ [N + 4, N + 2, N + 3, N, N + 1]) : c ≤ N + 4 ∧ N ≤ c := by
  rcases five h with q | q | q | q | q <;> (rw [q]; omega)
theorem turn_zipM {P : Program} {w : World} {K : PySem.W.Frag} {elts : List Expr} {kk : Nat} {tpos : Pos} {a b N : Nat} (la : a < N) (lb : b < N) :
    Turn P w K (.Tuple elts kk tpos) (ItzM K a b) [N + 4, N + 2, N + 3, N, N + 1] (N + 4) (zM a b N) where
  mem := by simp
  obj := fun i h st c hc => by
    obtain ⟨hz, hTI, ⟨x, y, hTO⟩, ⟨o1, e1, _, d1⟩, ⟨o2, e2, _, d2⟩⟩ := st
    rcases five hc with q | q | q | q | q <;> subst q
    · exact ⟨_, hz, fun v q => nomatch q⟩
    · exact ⟨_, hTI, fun v q => nomatch q⟩
    · exact ⟨_, hTO, fun v q => nomatch q⟩
    · exact ⟨o1, e1, fun v q => by rw [d1] at q; cases q⟩
    · exact ⟨o2, e2, fun v q => by rw [d2] at q; cases q⟩
  keep := fun i h h' st k => by
    obtain ⟨hz, hTI, ⟨x, y, hTO⟩, h1, h2⟩ := st
    exact ⟨k _ (by simp) _ hz, k _ (by simp) _ hTI, ⟨x, y, k _ (by simp) _ hTO⟩,
      h1.at fun o q => k _ (by simp) o q, h2.at fun o q => k _ (by simp) o q⟩
  item := by
    intro X hP hw hK hc i pins s σ H E I hf st hg
    subst hP hw hK
    obtain ⟨hz, hTI, ⟨x0, y0, hTO⟩, h1, h2⟩ := st
    obtain ⟨xs, ys, x, y, hqx, hqy, hx, hy⟩ := hg
    obtain ⟨its, rv, p, _⟩ := I.tuple hqx
    obtain ⟨its2, rv2, p2, _⟩ := I.list hqy
    obtain ⟨u, hu, ru⟩ := rv.get hx
    obtain ⟨u2, hu2, ru2⟩ := rv2.get hy
    have l1 : i < its.toArray.size := by simpa using (List.getElem?_eq_some_iff.mp hu).1
    have l2 : i < its2.toArray.size := by simpa using (List.getElem?_eq_some_iff.mp hu2).1
    have hh : X.A.in1.handled = none := I.ok.hd hc
    have hzl : N + 4 < s.heap.objs.size := Heap.lt_size hz
    have hN : N < s.heap.objs.size := Nat.lt_of_le_of_lt (Nat.le_add_right N 4) hzl
    have S := zip_sep2 (N := N) (fp1 := [a]) (fp2 := [b]) (fun c hc => by rw [List.mem_singleton.mp hc]; exact la) (fun c hc => by rw [List.mem_singleton.mp hc]; exact lb)
    refine wpAny_pyNext_zipD2_item S (Draws.tuple hh N a (Nat.ne_of_lt la) its.toArray) (Draws.list hh (N + 1) b (Nat.ne_of_lt (Nat.lt_succ_of_lt lb)) its2.toArray) hz hTI hTO
      ⟨h1, (show s.heap.IsTuple a its.toArray from p)⟩ ⟨h2, p2.isList⟩ l1 l2 fun x1 x2 h' tk y1 y2 z' TO' s1' s2' hT hsz hk => ?_
    have e1 : x1 = u := by simpa [hu] using y1.symm
    have e2 : x2 = u2 := by simpa [hu2] using y2.symm
    subst e1 e2
    refine ⟨_, rfl, wpAny_letOwnedTupleGo_zip (s := { s with heap := h', toks := tk }) z' fun h'' z'' sb => ?_⟩
    have hT2 := (sb.2 _ (Nat.ne_of_gt hzl)).trans hT
    have new : ObjOk X.prog X.w (upd H s.heap.objs.size (.tup [x, y])) h'' s.heap.objs.size (.tup [x, y]) :=
      ⟨by show 2 ≤ sizeLine; decide, [x1, x2], .cons ru (.cons ru2 .nil), _, hT2, rfl, _, rfl⟩
    have kk : ∀ c o, c ∉ [N + 4, N + 2, N + 3, N, N + 1] → s.heap.get? c = some o → h''.get? c = some o := fun c o hb q =>
      (sb.2 c (fun e => hb (by simp [e]))).trans (hk c o (fun e => hb (by simp [e])) (fun e => hb (by simp [e])) (fun e => hb (by simp [e])) (fun e => hb (by simp [e])) q)
    have I1 := I.turnedNew (t' := tk) kk hf (Nat.le_refl _) new
    refine ⟨.ref s.heap.objs.size, _, I1, rfl, ⟨_, x, y, rfl, I.hok.fresh (Nat.le_refl _), rfl, fun l hl => by rw [I.tuple_inj hl hqx]; exact hx, fun l hl => by rw [I.list_inj hl hqy]; exact hy⟩, ⟨z'', ?_, ⟨x1, x2, ?_⟩, ?_, ?_⟩, fun c hcm => ?_⟩
    · have n1 : N + 2 ≠ N + 4 := by omega
      exact (sb.2 _ n1).trans (hk _ _ n1 (by show (N + 2 : Nat) ≠ N + 3; omega) (by show (N + 2 : Nat) ≠ N; omega) (by show (N + 2 : Nat) ≠ N + 1; omega) hTI)
    · exact (sb.2 _ (by show (N + 3 : Nat) ≠ N + 4; omega)).trans TO'
    · exact s1'.1.at fun o q => (sb.2 _ (by show (N : Nat) ≠ N + 4; omega)).trans q
    · exact s2'.1.at fun o q => (sb.2 _ (by show (N + 1 : Nat) ≠ N + 4; omega)).trans q
    · have hlt : c < s.heap.objs.size := Nat.lt_of_le_of_lt (fiveLe hcm).1 hzl
      rw [upd_ne (Nat.ne_of_lt hlt)]
      exact (hf c hcm).1
  done := by
    intro X hP hw hK hc i pins s σ H E I hf st hg
    subst hP hw hK
    obtain ⟨hz, hTI, ⟨x0, y0, hTO⟩, h1, h2⟩ := st
    obtain ⟨xs, ys, hqx, hqy, he, hi⟩ := hg
    obtain ⟨its, rv, p, _⟩ := I.tuple hqx
    obtain ⟨its2, rv2, p2, _⟩ := I.list hqy
    have l1 := rv.length
    have l2 := rv2.length
    have e1 : i = its.toArray.size := by simp; omega
    have e2 : i = its2.toArray.size := by simp; omega
    have hh : X.A.in1.handled = none := I.ok.hd hc
    have S := zip_sep2 (N := N) (fp1 := [a]) (fp2 := [b]) (fun c hc => by rw [List.mem_singleton.mp hc]; exact la) (fun c hc => by rw [List.mem_singleton.mp hc]; exact lb)
    refine wpAny_pyNext_zipD2_end S (Draws.tuple hh N a (Nat.ne_of_lt la) its.toArray) (Draws.list hh (N + 1) b (Nat.ne_of_lt (Nat.lt_succ_of_lt lb)) its2.toArray) hz hTI hTO
      ⟨h1, (show s.heap.IsTuple a its.toArray from p)⟩ ⟨h2, p2.isList⟩ (Nat.le_of_eq e1) (Nat.le_of_eq e2) (.inl e1) fun h' tk hk => ⟨rfl, I.turnedL (t' := tk) (ch := [N + 4, N + 2, N + 3, N, N + 1]) (fun c o hb q => ?_) hf⟩
    exact hk c o (fun e => hb (by simp [e])) (fun e => hb (by simp [e])) (fun e => hb (by simp [e])) (fun e => hb (by simp [e])) q
  self := fun A i s Q E st h => wpAny_pyIter_zip st.1 h
def iZipM (K : PySem.W.Frag) (ta : TA) : TI := fun σ H R => ta σ H fun vs H1 => ∃ a b xs ys, vs = [.ref a, .ref b] ∧ SqT K H1 a xs ∧ SqL K H1 b ys ∧ R (ItzM K a b) H1
theorem pi_zipM {X : Cx} {e e2 : Expr} {ta : TA} {p pos tpos : Pos} {elts : List Expr} {kk : Nat} (hg : Gl X "zip") (hm : X.mg "zip" = none) (ha : PA X [e, e2] ta)
    (hs : starEach [e, e2] X.env = (false, eval e X.env) :: starEach [e2] X.env := by rfl) (hpl : (backTo pos (starEach [e2] X.env)).any (·.1) = false := by rfl) :
    PI X (.Tuple elts kk tpos) (.Call (.Name "zip" p) [e, e2] [] pos) (iZipM X.K ta) := by
  refine ⟨fun pins s σ H R I h => ?_⟩
  refine Call_ (ld_blt I hg hm boot_zip (callWith_type1 (thn (ha.run pos pins s σ H _ I h) fun us s1 ⟨vs, H1, I1, r1, q1⟩ => ?_) hs hpl))
  obtain ⟨a, b, xs, ys, rfl, hqx, hqy, q⟩ := q1
  obtain ⟨u1, u2, rfl, r1, r2⟩ : ∃ u1 u2, us = [u1, u2] ∧ RelV (.ref a) u1 ∧ RelV (.ref b) u2 := by
    cases r1 with
    | cons r rr => cases rr with
      | cons r' rr => cases rr; exact ⟨_, _, rfl, r, r'⟩
  cases r1
  cases r2
  obtain ⟨its, rv, p1, _⟩ := I1.tuple hqx
  obtain ⟨its2, rv2, p2, _⟩ := I1.list hqy
  have la : a < s1.heap.objs.size := by
    obtain ⟨o, ho, _⟩ := id p1
    exact Heap.lt_size ho
  refine zip_begins2 (begins_tuple a its.toArray) (begins_list b its2.toArray) (show s1.heap.IsTuple a its.toArray from p1) p2.isList fun h' hz hTI hTO h1 h2 hsz hk => wpAny_pyIter_zip hz ?_
  refine ⟨s1.heap.objs.size + 4, _, zM a b s1.heap.objs.size, ItzM X.K a b, H1, rfl, I1.kept (t' := s1.toks) hk, turn_zipM la p2.lt, ⟨hz, hTI, ⟨_, _, hTO⟩, ⟨_, h1, rfl, rfl⟩, ⟨_, h2, rfl, rfl⟩⟩, fun c hc => ?_, q⟩
  have hle : s1.heap.objs.size ≤ c := (fiveLe hc).2
  exact I1.fpOk hle (I1.hok.fresh hle)
end Tw
namespace Tw
open PySem PySem.Spec PyProof.Rows L2
section
variable {P : Program} {w : World} {K : PySem.W.Frag} {mg : Str → Option Value} {base : Heap} {j k n : Nat} {X : Cx} {NS WS : List (Str × Nat)} {G : List Str} {x m : Str} {i : Nat} {p pos apos : Pos} {e o : Expr} {es : List Expr} {t tk : TA} {ps ks : List Str} {sp : Sp} {te ta : TE} {C : Addr} {kws : List Keyword}
/-- a name of the module, as a value -/
theorem n_gl {v : V} {u : Value} (h : Nm P w K mg base j X NS WS G) (hm : mg x = some u) (r : RelV v u) (hg : x ∈ G) : PE X (.Name x pos) (tC v) := pe_glob (h.gl x hg).1 (by rw [h.em]; exact hm) r (h.gl x hg).2.1
theorem n_glR {a : Addr} (h : Nm P w K mg base j X NS WS G) (hm : mg x = some (.ref a)) (hg : x ∈ G) : PE X (.Name x pos) (tC (.ref a)) := n_gl h hm rfl hg
theorem n_glI {z : Int} {tz : Tok} (h : Nm P w K mg base j X NS WS G) (hm : mg x = some (.int z tz)) (hg : x ∈ G) : PE X (.Name x pos) (tC (.int z)) := n_gl h hm ⟨_, rfl⟩ hg
/-- a built-in name, as a value -/
theorem n_bv {v : V} {u : Value} (h : Nm P w K mg base j X NS WS G) (hm : mg x = none) (hv : bootBuiltins x = some u) (r : RelV v u) (hg : x ∈ G) : PE X (.Name x pos) (tC v) := pe_bltn (h.gl x hg).1 (by rw [h.em]; exact hm) hv r (h.gl x hg).2.2 (h.gl x hg).2.1
theorem n_zip {e2 : Expr} {elts : List Expr} {kk : Nat} {tpos : Pos} (h : Nm P w K mg base j X NS WS G) (hm : mg "zip" = none) (hg : ("zip" : Str) ∈ G) (ha : PA X [e, e2] t)
    (hs : starEach [e, e2] X.env = (false, eval e X.env) :: starEach [e2] X.env := by rfl) (hpl : (backTo pos (starEach [e2] X.env)).any (·.1) = false := by rfl) : PI X (.Tuple elts kk tpos) (.Call (.Name "zip" p) [e, e2] [] pos) (iZipM X.K t) :=
  pi_zipM (h.gl _ hg).1 (by rw [h.em]; exact hm) ha hs hpl
theorem n_enum {elts : List Expr} {kk : Nat} {tpos : Pos} (h : Nm P w K mg base j X NS WS G) (hm : mg "enumerate" = none) (hg : ("enumerate" : Str) ∈ G) (ha : PA X [e] t) (hs : starEach [e] X.env = [(false, eval e X.env)] := by rfl) :
    PI X (.Tuple elts kk tpos) (.Call (.Name "enumerate" p) [e] [] pos) (iEnum X.K t) := pi_enum (h.gl _ hg).1 (by rw [h.em]; exact hm) ha hs

/-! ### methods, calls of instances, properties, new instances -/
structure Mf (P : Program) (w : World) (K : PySem.W.Frag) (mg : Str → Option Value) (base : Heap) (k : Nat) (C : Addr) (m : Str) (ps : List Str) (sp : Sp) : Prop where
  ex : ∃ f fd, Meth K C m f ∧ Binds K fd ps [] ∧ FnOk P w K mg base CX0 k f fd ps sp
def tM (C : Addr) (m : Str) (sp : Sp) (ta : TE) (t : TA) : TE := fun σ H Q => ta σ H fun x H1 => ∃ a dx fs, x = .ref a ∧ H1 a = some (.ins C dx fs) ∧ fs.lookup m = none ∧ t σ H1 fun vs H2 => sp (.ref a :: vs) H2 Q E0
theorem n_m {pl : Sem Bool} (h : Nm P w K mg base j X NS WS G) (c : Cls K C) (M : Mf P w K mg base k C m ps sp) (hk : k ≤ j) (he : PE X o ta) (ha : PA X (e :: es) t)
    (hst : starEach (e :: es) X.env = (false, eval e X.env) :: starEach es X.env := by rfl) (hpl : (backTo pos (starEach es X.env)).any (·.1) = false := by rfl)
    (ht : eval (.Call (.Attribute o m apos) (e :: es) [] pos) X.env = (do
      let ov ← eval o X.env; standAt apos.atName; let (f, first) ← holding [ov] (getMethod ov m pl)
      callWith pos f first (backTo pos (starEach (e :: es) X.env)) (backToKw pos (keywordEach [] X.env))) := by rfl) : PE X (.Call (.Attribute o m apos) (e :: es) [] pos) (tM C m sp ta t) := by
  obtain ⟨h1, h2, h3, h4, h5, hr, _, _, _, _, hgl⟩ := h
  subst h1 h2 h3 h4 h5
  obtain ⟨f, fd, hm, hb, F⟩ := M.ex
  refine ⟨fun pins s σ H Q I h => (pe_meth he c hm F (hr.mono hk) hb .nil pass0 ha hst hpl ht).run pins s σ H Q I ?_⟩
  have e : tMeth C m sp [] E0 ta t σ H Q = tM C m sp ta t σ H Q := by
    unfold tMeth tM
    refine congrArg (ta σ H) (funext fun x => funext fun H1 => ?_)
    simp only [List.append_nil]
    apply propext
    constructor
    · rintro ⟨a, dx, fs, rfl, q⟩; exact ⟨a, dx, fs, rfl, q⟩
    · rintro ⟨a, dx, fs, rfl, q⟩; exact ⟨a, dx, fs, rfl, q⟩
  rw [e]
  exact h
theorem n_m0 {pl : Sem Bool} (h : Nm P w K mg base j X NS WS G) (c : Cls K C) (M : Mf P w K mg base k C m ps sp) (hk : k ≤ j) (he : PE X o ta)
    (ht : eval (.Call (.Attribute o m apos) [] [] pos) X.env = (do
      let ov ← eval o X.env; standAt apos.atName; let (f, first) ← holding [ov] (getMethod ov m pl)
      callWith pos f first (backTo pos (starEach [] X.env)) (backToKw pos (keywordEach [] X.env))) := by rfl) : PE X (.Call (.Attribute o m apos) [] [] pos) (tM C m sp ta tNil) := by
  obtain ⟨h1, h2, h3, h4, h5, hr, _, _, _, _, hgl⟩ := h
  subst h1 h2 h3 h4 h5
  obtain ⟨f, fd, hm, hb, F⟩ := M.ex
  refine ⟨fun pins s σ H Q I h => (pe_meth0 he c hm F (hr.mono hk) hb .nil pass0 ht).run pins s σ H Q I ?_⟩
  have e : tMeth C m sp [] E0 ta tNil σ H Q = tM C m sp ta tNil σ H Q := by
    unfold tMeth tM
    refine congrArg (ta σ H) (funext fun x => funext fun H1 => ?_)
    simp only [List.append_nil]
    apply propext
    constructor
    · rintro ⟨a, dx, fs, rfl, q⟩; exact ⟨a, dx, fs, rfl, q⟩
    · rintro ⟨a, dx, fs, rfl, q⟩; exact ⟨a, dx, fs, rfl, q⟩
  rw [e]
  exact h
/-- o.m(k = v, ..): keywords alone -/
structure MfK (P : Program) (w : World) (K : PySem.W.Frag) (mg : Str → Option Value) (base : Heap) (k : Nat) (C : Addr) (m : Str) (ps ks : List Str) (gV : List V → List V → List V) (sp : Sp) : Prop where
  ex : ∃ f fd g, Meth K C m f ∧ KBn K fd ps 1 ks g gV ∧ FnOk P w K mg base CX0 k f fd ps sp
def tMK (C : Addr) (m : Str) (q : Nat) (gV : List V → List V → List V) (sp : Sp) (ta : TE) (tk : TA) : TE := fun σ H Q => ta σ H fun x H1 => ∃ a dx fs, x = .ref a ∧ H1 a = some (.ins C dx fs) ∧ fs.lookup m = none ∧ tk σ H1 fun zs H2 => zs.length = q ∧ sp (gV [.ref a] zs) H2 Q E0
theorem n_mK {pl : Sem Bool} {gV : List V → List V → List V} (h : Nm P w K mg base j X NS WS G) (c : Cls K C) (M : MfK P w K mg base k C m ps ks gV sp) (hk : k ≤ j) (he : PE X o ta) (hkw : PK X kws tk)
    (hall : (backToKw pos (keywordEach kws X.env)).all (·.1.isSome) = true := by rfl) (hks : (backToKw pos (keywordEach kws X.env)).filterMap (·.1) = ks := by rfl)
    (hpl : ((backTo pos (starEach [] X.env)).any (·.1) || (backToKw pos (keywordEach kws X.env)).any (·.1.isNone)) = false := by rfl)
    (ht : eval (.Call (.Attribute o m apos) [] kws pos) X.env = (do
      let ov ← eval o X.env; standAt apos.atName; let (f, first) ← holding [ov] (getMethod ov m pl)
      callWith pos f first (backTo pos (starEach [] X.env)) (backToKw pos (keywordEach kws X.env))) := by rfl) : PE X (.Call (.Attribute o m apos) [] kws pos) (tMK C m ks.length gV sp ta tk) := by
  obtain ⟨h1, h2, h3, h4, h5, hr, _, _, _, _, hgl⟩ := h
  subst h1 h2 h3 h4 h5
  obtain ⟨f, fd, g, hm, hb, F⟩ := M.ex
  refine ⟨fun pins s σ H Q I h => ?_⟩
  refine PySem.W.methodCall_KW (pl := pl) (thn (he.run pins s σ H _ I h) fun u s1 ⟨x, H1, I1, rx, a, dx, fs, ex, ea, l, q⟩ => ?_) ht
  subst ex
  obtain rfl : u = Value.ref a := rx
  refine getmeth_ok I1 ea c hm l ?_
  refine PySem.W.callWith_KW0 (first := [.ref a]) (h₀ := X.base) I.ok.mod.kin hm.kp hall ?_ hpl
  refine thn (hkw.run pos pins s1 σ H1 _ I1 q) fun ws s2 ⟨zs, H2, I2, rz, l2, q2⟩ => ⟨I2.kIn, ?_⟩
  rw [hks]
  exact run_fnN (us := [.ref a]) (vs := [.ref a]) F (hr.mono hk) hb pass0 I2 (.cons rfl .nil) rz rfl l2 q2
end
end Tw
namespace Tw
open PySem PySem.Spec PyProof.Rows L2
section
variable {P : Program} {w : World} {K : PySem.W.Frag} {mg : Str → Option Value} {base : Heap} {j k n : Nat} {X : Cx} {NS WS : List (Str × Nat)} {G : List Str} {x m : Str} {i : Nat} {p pos apos : Pos} {e o : Expr} {es : List Expr} {t tk : TA} {ps ks : List Str} {sp : Sp} {te ta : TE} {C : Addr} {kws : List Keyword}
/-- C(e, .., k = v, ..) -/
structure Kf (P : Program) (w : World) (K : PySem.W.Frag) (mg : Str → Option Value) (base : Heap) (k : Nat) (C : Addr) (n : Nat) (ps ks : List Str) (gV : List V → List V → List V) (sp : Sp) : Prop where
  ex : ∃ f fd g, Mk K C f ∧ KBn K fd ps (n + 1) ks g gV ∧ FnOk P w K mg base CX0 k f fd ps sp
theorem n_mk {gV : List V → List V → List V} (h : Nm P w K mg base j X NS WS G) (hm : mg x = some (.ref C)) (M : Kf P w K mg base k C n ps ks gV sp) (hk : k + 1 ≤ j) (hg : x ∈ G) (ha : PA X (e :: es) t) (hkw : PK X kws tk)
    (hall : (backToKw pos (keywordEach kws X.env)).all (·.1.isSome) = true := by rfl) (hks : (backToKw pos (keywordEach kws X.env)).filterMap (·.1) = ks := by rfl)
    (he : starEach (e :: es) X.env = (false, eval e X.env) :: starEach es X.env := by rfl)
    (hpl : ((backTo pos (starEach (e :: es) X.env)).any (·.1) || (backToKw pos (keywordEach kws X.env)).any (·.1.isNone)) = false := by rfl) :
    PE X (.Call (.Name x p) (e :: es) kws pos) (tMakeN C n ks.length sp gV E0 t tk) := by
  obtain ⟨h1, h2, h3, h4, h5, hr, _, _, _, _, hgl⟩ := h
  subst h1 h2 h3 h4 h5
  obtain ⟨f, fd, g, hM, hb, F⟩ := M.ex
  exact pe_makeN hM F (hr.mono hk) (hgl x hg).1 hm hb pass0 ha hkw hall hks (hgl x hg).2.1 he hpl

/-- f(e, ..), f an instance of C -/
structure Cf (P : Program) (w : World) (K : PySem.W.Frag) (mg : Str → Option Value) (base : Heap) (k : Nat) (C : Addr) (ps : List Str) (sp : Sp) : Prop where
  ex : ∃ f fd, StX.CallO K C f ∧ Binds K fd ps [] ∧ FnOk P w K mg base CX0 k f fd ps sp
def tCO (C : Addr) (sp : Sp) (tf : TE) (t : TA) : TE := fun σ H Q => tf σ H fun y H1 => ∃ a, y = V.ref a ∧ t σ H1 fun vs H2 => (∃ dx fs, H2 a = some (.ins C dx fs)) ∧ sp (V.ref a :: vs) H2 Q E0
theorem run_args {X : Cx} {k : Nat} {f : Addr} {fd : FuncData} {ps : List Str} {sp : Sp} {pins : List (Addr × Obj)} {σ : L2.St} {H : Hp} {s : Shared} {Q : VK} {us : List Value} {vs : List V} (F : FnOk X.prog X.w X.K X.mg X.base CX0 k f fd ps sp) (hr : Room k X.A) (hb : Binds X.K fd ps [])
    (I : Inv X pins σ H s) (r : Vals vs us) (h : sp vs H Q E0) : codeAny (model X.prog X.w) X.A (.call (.ref f) ⟨us, []⟩) (fun r s' => match r with | .ok (.ret u) => EP X pins σ Q u s' | _ => False) s := by
  have hl : (us ++ []).length = ps.length := by rw [List.append_nil, ← r.length]; exact F.len _ _ _ _ h
  have hb2 := hb s us I.kIn hl
  rw [List.append_nil] at hb2
  refine codeAny_mono (F.run X.A X.stack s H ⟨us, []⟩ us vs Q E0 hr I.env0 hb2 r h) fun r s' hq => ?_
  cases r with
  | error e => exact hq
  | ok fl =>
    cases fl with
    | ret u => exact I.after hq
    | next => exact hq
    | brk => exact hq
    | cont => exact hq
theorem n_co {tf : TE} {fe : Expr} (h : Nm P w K mg base j X NS WS G) (M : Cf P w K mg base k C ps sp) (hk : k ≤ j) (hf : PE X fe tf) (ha : PA X (e :: es) t)
    (ht : eval (.Call fe (e :: es) [] pos) X.env = (do callWith pos (← eval fe X.env) [] (backTo pos (starEach (e :: es) X.env)) (backToKw pos (keywordEach [] X.env))) := by rfl)
    (he : starEach (e :: es) X.env = (false, eval e X.env) :: starEach es X.env := by rfl) (hpl : (backTo pos (starEach es X.env)).any (·.1) = false := by rfl) : PE X (.Call fe (e :: es) [] pos) (tCO C sp tf t) := by
  obtain ⟨h1, h2, h3, h4, h5, hr, _, _, _, _, hgl⟩ := h
  subst h1 h2 h3 h4 h5
  obtain ⟨f, fd, hc, hb, F⟩ := M.ex
  refine ⟨fun pins s σ H Q I h => ?_⟩
  refine Call_ (thn (hf.run pins s σ H _ I h) fun u s1 ⟨y, H1, I1, ry, a, ey, q⟩ => ?_) ht
  subst ey
  obtain rfl : u = Value.ref a := ry
  refine StX.callO_with (thn (ha.run pos pins s1 σ H1 _ I1 q) fun us s2 ⟨vs, H2, I2, r, ⟨dx, fs, hi⟩, q2⟩ => ?_) he hpl
  obtain ⟨ox, od, J, hd⟩ := StX.insC_at I2 (.inr ⟨dx, fs, hi⟩)
  refine ⟨⟨C, ox, od, J, hd⟩, wpAny_call (PySem.W.kco_code I2.kIn J hd hc.at_ hc.fn hc.fi (codeAny_mono (run_args (us := .ref a :: us) (vs := .ref a :: vs) F (hr.mono hk) hb I2 (.cons rfl r) q2) fun r s' hq => ?_))⟩
  cases r with
  | error e => exact hq.elim
  | ok fl =>
    cases fl with
    | ret u => exact hq
    | next => exact hq.elim
    | brk => exact hq.elim
    | cont => exact hq.elim

/-- e.f, a property -/
structure Pf (P : Program) (w : World) (K : PySem.W.Frag) (mg : Str → Option Value) (base : Heap) (k : Nat) (C : Addr) (m : Str) (ps : List Str) (sp : Sp) : Prop where
  ex : ∃ q g fd, PropOf K C m q g ∧ Binds K fd ps [] ∧ FnOk P w K mg base CX0 k g fd ps sp
theorem n_p (h : Nm P w K mg base j X NS WS G) (c : Cls K C) (M : Pf P w K mg base k C m ps sp) (hk : k + 1 ≤ j) (he : PE X e ta) (hb : attributeBase e m X.env (eval e X.env) = eval e X.env := by rfl) : PE X (.Attribute e m pos) (tProp C sp [] E0 ta) := by
  obtain ⟨h1, h2, h3, h4, h5, hr, _, _, _, _, hgl⟩ := h
  subst h1 h2 h3 h4 h5
  obtain ⟨q, g, fd, hp, hbb, F⟩ := M.ex
  exact pe_prop he c hp F (hr.mono hk) hbb .nil pass0 hb

/-! ### comprehensions that make a list item by item, all else as it was -/
theorem lcT {K : PySem.W.Frag} {a : Addr} {xs fs : List V} {i : Nat} {te : TE} {vs : List Nat} {σ : L2.St} {H1 : Hp} {D : Addr} {Qd : Hp → Prop} (hT : SqT K H1 a xs) (hD : H1 D = none) (hl : fs.length = xs.length) (hz : xs.length < sizeLine)
    (he : ∀ (j : Nat) x y H' (Qk : V → Hp → Prop), xs[j]? = some x → fs[j]? = some y → Same H1 H' → (∀ H2, Same H' H2 → Qk y H2) → te ((wipe σ vs).set i (some x)) H' Qk) (hd : ∀ H', Same H1 H' → H' D = some (.lst fs) → Qd H')
    (hw : ∀ x, wipe ((wipe σ vs).set i (some x)) vs = wipe σ vs) :
    ∃ W : Nat → Nat → Hp → Prop, (∃ m, W 0 m (upd H1 D (.lst []))) ∧ ∀ i' m H, W i' m H →
      ((Itt K a).stop i' H ∧ Qd H) ∨ ((Itt K a).go i' H ∧ ∃ Nx : Hp → Prop, (∀ H', Nx H' → ∃ m', m' < m ∧ W (i' + 1) m' H') ∧ ∀ x H', (Itt K a).yld i' H x H' → gName i x (wipe σ vs) H' fun σ2 H2 => wipe σ2 vs = wipe σ vs ∧ tYes σ2 H2 fun b H3 =>
        if b = true then te σ2 H3 fun y H4 => ∃ acc, H4 D = some (.lst acc) ∧ acc.length < sizeLine ∧ Nx (upd H4 D (.lst (acc ++ [y]))) else Nx H3) := by
  have st : ∀ H, Same H1 H → SqT K H a xs := fun H e => by
    rcases hT with (h | ⟨o, h⟩) | h
    · exact .inl (.inl (e _ _ h))
    · exact .inl (.inr ⟨o, e _ _ h⟩)
    · exact .inr h
  refine lc_tup (K := K) (a := a) (xs := xs) (fun j H => Same H1 H ∧ H D = some (.lst (fs.take j))) ⟨same_new hD, by rw [upd_same]; rfl⟩ (fun j H _ p => st H p.1) ?_ ?_
  · rintro j x H hx ⟨s1, hDl⟩
    have hj : j < xs.length := (List.getElem?_eq_some_iff.mp hx).1
    have hy : fs[j]? = some fs[j] := List.getElem?_eq_getElem (by omega)
    refine ⟨hw x, yes_ ?_⟩
    refine he j x _ H _ hx hy s1 fun H2 s2 => ⟨_, s2 _ _ hDl, ?_, same_put (Same.trans s1 s2) hD, ?_⟩
    · rw [List.length_take]; omega
    · rw [upd_same, List.take_add_one, hy]; rfl
  · rintro H ⟨s1, hDl⟩
    rw [← hl, List.take_length] at hDl
    exact hd H s1 hDl
theorem lcR {n : Nat} {fs : List V} {i : Nat} {te : TE} {vs : List Nat} {σ : L2.St} {H1 : Hp} {D : Addr} {Qd : Hp → Prop} (hD : H1 D = none) (hl : fs.length = n) (hz : n < sizeLine)
    (he : ∀ (j : Nat) y H' (Qk : V → Hp → Prop), fs[j]? = some y → Same H1 H' → (∀ H2, Same H' H2 → Qk y H2) → te ((wipe σ vs).set i (some (.int (0 + (j : Int))))) H' Qk) (hd : ∀ H', Same H1 H' → H' D = some (.lst fs) → Qd H')
    (hw : ∀ x, wipe ((wipe σ vs).set i (some x)) vs = wipe σ vs) :
    ∃ W : Nat → Nat → Hp → Prop, (∃ m, W 0 m (upd H1 D (.lst []))) ∧ ∀ i' m H, W i' m H →
      ((Itr 0 n).stop i' H ∧ Qd H) ∨ ((Itr 0 n).go i' H ∧ ∃ Nx : Hp → Prop, (∀ H', Nx H' → ∃ m', m' < m ∧ W (i' + 1) m' H') ∧ ∀ x H', (Itr 0 n).yld i' H x H' → gName i x (wipe σ vs) H' fun σ2 H2 => wipe σ2 vs = wipe σ vs ∧ tYes σ2 H2 fun b H3 =>
        if b = true then te σ2 H3 fun y H4 => ∃ acc, H4 D = some (.lst acc) ∧ acc.length < sizeLine ∧ Nx (upd H4 D (.lst (acc ++ [y]))) else Nx H3) := by
  refine lc_range (lo := 0) (n := n) (fun j H => Same H1 H ∧ H D = some (.lst (fs.take j))) ⟨same_new hD, by rw [upd_same]; rfl⟩ ?_ ?_
  · rintro j H hj ⟨s1, hDl⟩
    have hy : fs[j]? = some fs[j] := List.getElem?_eq_getElem (by omega)
    refine ⟨hw _, yes_ ?_⟩
    refine he j _ H _ hy s1 fun H2 s2 => ⟨_, s2 _ _ hDl, ?_, same_put (Same.trans s1 s2) hD, ?_⟩
    · rw [List.length_take]; omega
    · rw [upd_same, List.take_add_one, hy]; rfl
  · rintro H ⟨s1, hDl⟩
    rw [← hl, List.take_length] at hDl
    exact hd H s1 hDl
end
end Tw
namespace Tw
open PySem PySem.Spec PyProof.Rows L2
theorem for_enum {K : PySem.W.Frag} {a : Addr} {xs : List V} {g : TG} {tb : TS} {D : Ends} {σ : L2.St} {H : Hp} (Pv : Nat → L2.St → Hp → Prop) (h0 : Pv 0 σ H) (hl : ∀ i σ H, Pv i σ H → SqL K H a xs)
    (hs : ∀ (i : Nat) x T σ H, xs[i]? = some x → Pv i σ H → H T = none → g (.ref T) σ (upd H T (.tup [.int (i : Nat), x])) fun σ2 H2 => tb { D with nx := Pv (i + 1), ct := Pv (i + 1), bk := D.nx } σ2 H2) (hd : ∀ σ H, Pv xs.length σ H → D.nx σ H) :
    ∃ W : Nat → Nat → L2.St → Hp → Prop, (∃ m, W 0 m σ H) ∧ ∀ i m σ H, W i m σ H →
      ((Ite K a).stop i H ∧ D.nx σ H) ∨ ((Ite K a).go i H ∧ ∃ N : L2.St → Hp → Prop, (∀ σ' H', N σ' H' → ∃ m', m' < m ∧ W (i + 1) m' σ' H') ∧ ∀ v H', (Ite K a).yld i H v H' → g v σ H' fun σ2 H2 => tb { D with nx := N, ct := N, bk := D.nx } σ2 H2) := by
  refine ⟨fun i m σ H => m = xs.length - i ∧ i ≤ xs.length ∧ Pv i σ H, ⟨xs.length, rfl, Nat.zero_le _, h0⟩, ?_⟩
  rintro i m σ H ⟨rfl, hi, p⟩
  have q := hl i σ H p
  by_cases c : i < xs.length
  · have hx : xs[i]? = some xs[i] := List.getElem?_eq_getElem c
    refine .inr ⟨⟨xs, xs[i], q, hx⟩, Pv (i + 1), fun σ' H' p' => ⟨xs.length - (i + 1), by omega, rfl, c, p'⟩, ?_⟩
    rintro v H' ⟨T, x, rfl, hT, rfl, hall⟩
    exact hs i x T σ H (hall xs q) p hT
  · have e : i = xs.length := by omega
    subst e
    exact .inl ⟨⟨xs, q, Nat.le_refl _⟩, hd σ H p⟩
/-- a def with keyword-only defaults keeps its promise -/
theorem funD_ok {P : Program} {w : World} {K : PySem.W.Frag} {mg : Str → Option Value} {base : Heap} {x qual : Str} {params : Arguments} {body : List Stmt} {scope : Scope} {dvs : List V} {kws : List (Str × V)} {f : Addr} {fd : FuncData} {N ps : List Str} {k : Nat} {sp : Sp} (F : FunD K x qual params body scope dvs kws f fd)
    (S : FnScope N ps scope) (len : ∀ vs H Q E, sp vs H Q E → vs.length = ps.length)
    (hbody : ∀ (cdv : Value) (A : Around) (outer : List Env) (s : Shared) (H : Hp) (vs : List V) (Q : VK) (E : XK), Room k (A.deeper (envOfC qual scope s.heap.objs.size f cdv)) → sp vs H Q E →
      ∃ t, PSs (cxOf CX0 P w K mg base N qual scope f cdv A outer s H E).nox body t ∧ t { nx := fun _ H' => Q .non H', rt := Q } (start N vs) H) : FnOk P w K mg base CX0 (k + 1) f fd ps sp := by
  obtain ⟨oc, od, dV, kV, doc, pm, an, cdv, ct, osl, rfl, lk, hcd, _, _⟩ := F.ex
  refine fn_of lk hcd S len fun A outer s H vs Q E hr hsp => ?_
  obtain ⟨t, h, q⟩ := hbody cdv A outer s H vs Q E hr hsp
  exact ⟨t, h.nox, q⟩
theorem cut_all {xs : List V} {n : Nat} (h : xs.length ≤ n) : cutV xs none (some (n : Int)) = xs := by
  unfold cutV
  rw [HT.sIx_nat, show HT.sIx xs.length 0 none = 0 from rfl, Nat.min_eq_right h, List.drop_zero, Nat.sub_zero, List.take_length]
end Tw
namespace Tw
open PySem PySem.Spec PyProof.Rows L2
section
variable {P : Program} {w : World} {K : PySem.W.Frag} {mg : Str → Option Value} {base : Heap} {j k n : Nat} {X : Cx} {NS WS : List (Str × Nat)} {G : List Str} {m : Str} {pos : Pos} {a b e : Expr} {ta tb te : TE} {t : TA} {p : Pos} {es : List Expr}
theorem n_ixT (h : Nm P w K mg base j X NS WS G) (ha : PE X a ta) (hb : PE X b tb) (hs : PlainIx b) : PE X (.Subscript a b pos) (tOp (rIxT K) ta tb) := by
  have e := h.eK
  subst e
  exact pe_ix ix_tup ha hb hs
theorem n_ixL (h : Nm P w K mg base j X NS WS G) (ha : PE X a ta) (hb : PE X b tb) (hs : PlainIx b) : PE X (.Subscript a b pos) (tOp (rIxL K) ta tb) := by
  have e := h.eK
  subst e
  exact pe_ix ix_list ha hb hs
theorem n_fldK (h : Nm P w K mg base j X NS WS G) (he : PE X e te) (hb : attributeBase e m X.env (eval e X.env) = eval e X.env := by rfl) : PE X (.Attribute e m pos) (tFld K te m) := by
  have e := h.eK
  subst e
  exact pe_fld he hb
theorem n_tupK {es : List Expr} {k : Nat} {t : TGs} {n : Nat} (h : Nm P w K mg base j X NS WS G) (hp : PGs X es t) (hn : (assignEach es X.env).length = n := by rfl) (hst : (assignEach es X.env).findIdx? (·.1) = none := by rfl) : PG X (.Tuple es k pos) (gTup K n t) := by
  have e := h.eK
  subst e
  exact pg_tup h.calm hp hn hst
theorem n_len (h : Nm P w K mg base j X NS WS G) (hm : mg "len" = none) (hg : ("len" : Str) ∈ G) (ha : PA X (e :: es) t)
    (he : starEach (e :: es) X.env = (false, eval e X.env) :: starEach es X.env := by rfl) (hpl : (backTo pos (starEach es X.env)).any (·.1) = false := by rfl) :
    PE X (.Call (.Name "len" p) (e :: es) [] pos) (tCB (fun xs H Q => ∃ p ys, xs = [.ref p] ∧ (SqL K H p ys ∨ SqT K H p ys) ∧ Q (.int ys.length) H) t) := by
  have e := h.eK
  subst e
  exact n_b h hm call_len_seq PySem.boot_len hg ha he hpl
end
/-! ### the mathematics: the way of a turner and what is behind it -/
abbrev Mach := List (Int × List Int)
def turnM (M : Mach) (s : Int) : Int := (M.getD s.toNat (0, [])).1
def goM (M : Mach) (s d : Int) : Int := (M.getD s.toNat (0, [])).2.getD d.toNat 0
def runM (M : Mach) (s : Int) (ds : List Int) : Int := ds.foldl (goM M) s
def wayM (M : Mach) : Int → List Int → List Int
  | _, [] => []
  | s, d :: r => s :: wayM M (goM M s d) r
def behM (p : Int) (M : Mach) (s : Int) (ds : List Int) : List Int := List.zipWith (fun d q => (d + turnM M q) % p) ds (wayM M s ds)
theorem wayM_len (M : Mach) : ∀ (ds : List Int) (s : Int), (wayM M s ds).length = ds.length
  | [], _ => rfl
  | d :: r, s => by show (wayM M (goM M s d) r).length + 1 = r.length + 1; rw [wayM_len M r]
theorem wayM_snoc (M : Mach) (d : Int) : ∀ (ds : List Int) (s : Int), wayM M s (ds ++ [d]) = wayM M s ds ++ [runM M s ds]
  | [], s => rfl
  | e :: r, s => by
    show s :: wayM M (goM M s e) (r ++ [d]) = s :: (wayM M (goM M s e) r ++ [runM M (goM M s e) r])
    rw [wayM_snoc M d r]
theorem behM_len (p : Int) (M : Mach) (s : Int) (ds : List Int) : (behM p M s ds).length = ds.length := by
  unfold behM
  rw [List.length_zipWith, wayM_len, Nat.min_self]
theorem runM_snoc (M : Mach) (s d : Int) (ds : List Int) : runM M s (ds ++ [d]) = goM M (runM M s ds) d := by
  unfold runM
  rw [List.foldl_append]; rfl
theorem goM_in {p n : Int} {M : Mach} (h : OkM p n M) (hn : (M.length : Int) = n) {s d : Int} (s0 : 0 ≤ s) (s1 : s < n) (d0 : 0 ≤ d) (d1 : d < p) : 0 ≤ goM M s d ∧ goM M s d < n := by
  have hs : s.toNat < M.length := by omega
  have hm : M[s.toNat] ∈ M := List.getElem_mem hs
  have e : M.getD s.toNat (0, []) = M[s.toNat] := by
    rw [List.getD_eq_getElem?_getD, List.getElem?_eq_getElem hs]; rfl
  unfold goM
  rw [e]
  have hd : d.toNat < (M[s.toNat]).2.length := by
    have := h.many _ hm
    omega
  rw [List.getD_eq_getElem?_getD, List.getElem?_eq_getElem hd]
  exact h.goal _ hm _ (List.getElem_mem hd)
theorem runM_in {p n : Int} {M : Mach} (h : OkM p n M) (hn : (M.length : Int) = n) : ∀ (ds : List Int) {s : Int}, 0 ≤ s → s < n → (∀ d ∈ ds, 0 ≤ d ∧ d < p) → 0 ≤ runM M s ds ∧ runM M s ds < n
  | [], s, s0, s1, _ => ⟨s0, s1⟩
  | d :: r, s, s0, s1, f => by
    have q := goM_in h hn s0 s1 (f d List.mem_cons_self).1 (f d List.mem_cons_self).2
    exact runM_in h hn r q.1 q.2 fun x hx => f x (List.mem_cons_of_mem _ hx)
theorem wayM_in {p n : Int} {M : Mach} (h : OkM p n M) (hn : (M.length : Int) = n) : ∀ (ds : List Int) {s : Int}, 0 ≤ s → s < n → (∀ d ∈ ds, 0 ≤ d ∧ d < p) → ∀ q ∈ wayM M s ds, 0 ≤ q ∧ q < n
  | [], s, s0, s1, _, q, hq => by cases hq
  | d :: r, s, s0, s1, f, q, hq => by
    rcases List.mem_cons.mp hq with e | hq
    · rw [e]; exact ⟨s0, s1⟩
    · have z := goM_in h hn s0 s1 (f d List.mem_cons_self).1 (f d List.mem_cons_self).2
      exact wayM_in h hn r z.1 z.2 (fun x hx => f x (List.mem_cons_of_mem _ hx)) q hq
end Tw
namespace Tw
open PySem PySem.Spec PyProof.Rows L2
theorem lcZg {K : PySem.W.Frag} {J : It} {xs ys fs : List V} {i1 i2 : Nat} {te : TE} {vs : List Nat} {σ : L2.St} {H1 : Hp} {D : Addr} {Qd : Hp → Prop} (hlen : xs.length = ys.length) (hD : H1 D = none) (hl : fs.length = xs.length) (hz : xs.length < sizeLine)
    (hgo : ∀ H (j : Nat) x y, Same H1 H → xs[j]? = some x → ys[j]? = some y → J.go j H) (hstop : ∀ H, Same H1 H → J.stop xs.length H)
    (hy : ∀ H (j : Nat) v H', Same H1 H → J.yld j H v H' → ∃ T x y, v = .ref T ∧ H T = none ∧ H' = upd H T (.tup [x, y]) ∧ xs[j]? = some x ∧ ys[j]? = some y)
    (he : ∀ (j : Nat) x y z H' (Qk : V → Hp → Prop), xs[j]? = some x → ys[j]? = some y → fs[j]? = some z → Same H1 H' → (∀ H2, Same H' H2 → Qk z H2) → te (((wipe σ vs).set i1 (some x)).set i2 (some y)) H' Qk) (hd : ∀ H', Same H1 H' → H' D = some (.lst fs) → Qd H')
    (hw : ∀ x y, wipe (((wipe σ vs).set i1 (some x)).set i2 (some y)) vs = wipe σ vs) :
    ∃ W : Nat → Nat → Hp → Prop, (∃ m, W 0 m (upd H1 D (.lst []))) ∧ ∀ i' m H, W i' m H →
      (J.stop i' H ∧ Qd H) ∨ (J.go i' H ∧ ∃ Nx : Hp → Prop, (∀ H', Nx H' → ∃ m', m' < m ∧ W (i' + 1) m' H') ∧ ∀ x H', J.yld i' H x H' → gTup K 2 (gCons (gName i1) (gCons (gName i2) gNil)) x (wipe σ vs) H' fun σ2 H2 => wipe σ2 vs = wipe σ vs ∧ tYes σ2 H2 fun b H3 =>
        if b = true then te σ2 H3 fun y H4 => ∃ acc, H4 D = some (.lst acc) ∧ acc.length < sizeLine ∧ Nx (upd H4 D (.lst (acc ++ [y]))) else Nx H3) := by
  refine ⟨fun j m H => m = xs.length - j ∧ j ≤ xs.length ∧ Same H1 H ∧ H D = some (.lst (fs.take j)), ⟨xs.length, rfl, Nat.zero_le _, same_new hD, by rw [upd_same]; rfl⟩, ?_⟩
  rintro j m H ⟨rfl, hj, s1, hDl⟩
  by_cases c : j < xs.length
  · have hx : xs[j]? = some xs[j] := List.getElem?_eq_getElem c
    have hyy : ys[j]? = some ys[j] := List.getElem?_eq_getElem (by omega)
    have hf : fs[j]? = some fs[j] := List.getElem?_eq_getElem (by omega)
    refine .inr ⟨hgo H j _ _ s1 hx hyy, fun H' => Same H1 H' ∧ H' D = some (.lst (fs.take (j + 1))), fun H' p => ⟨xs.length - (j + 1), by omega, rfl, c, p⟩, ?_⟩
    intro v H' hyl
    obtain ⟨T, x, y, rfl, hT', rfl, ex, ey⟩ := hy H j v H' s1 hyl
    have s2 : Same H (upd H T (.tup [x, y])) := same_new hT'
    refine ⟨T, [x, y], rfl, SqT.of upd_same, rfl, x, [y], rfl, y, [], rfl, rfl, hw x y, yes_ ?_⟩
    refine he j x y _ _ _ ex ey hf (Same.trans s1 s2) fun H2 s3 => ⟨_, s3 _ _ (s2 _ _ hDl), ?_, same_put (Same.trans (Same.trans s1 s2) s3) hD, ?_⟩
    · rw [List.length_take]; omega
    · rw [upd_same, List.take_add_one, hf]; rfl
  · have e : j = xs.length := by omega
    subst e
    rw [← hl, List.take_length] at hDl
    exact .inl ⟨hstop H s1, hd H s1 hDl⟩
theorem sqT_same {K : PySem.W.Frag} {H H' : Hp} {a : Addr} {xs : List V} (e : Same H H') (h : SqT K H a xs) : SqT K H' a xs := by
  rcases h with (h | ⟨o, h⟩) | h
  · exact .inl (.inl (e _ _ h))
  · exact .inl (.inr ⟨o, e _ _ h⟩)
  · exact .inr h
section
variable {P : Program} {w : World} {K : PySem.W.Frag} {mg : Str → Option Value} {base : Heap} {j k n : Nat} {X : Cx} {NS WS : List (Str × Nat)} {G : List Str} {pos p : Pos} {t : TA}
theorem n_zipA {e e2 : Expr} {elts : List Expr} {kk : Nat} {tpos : Pos} (h : Nm P w K mg base j X NS WS G) (hm : mg "zip" = none) (hg : ("zip" : Str) ∈ G) (ha : PA X [e, e2] t)
    (hs : starEach [e, e2] X.env = (false, eval e X.env) :: starEach [e2] X.env := by rfl) (hpl : (backTo pos (starEach [e2] X.env)).any (·.1) = false := by rfl) : PI X (.Tuple elts kk tpos) (.Call (.Name "zip" p) [e, e2] [] pos) (RZ.iZipA K t) := by
  have q := h.eK
  subst q
  exact RZ.pi_zipA (h.gl _ hg).1 (by rw [h.em]; exact hm) ha hs hpl
theorem n_isi {e : Expr} {es : List Expr} (h : Nm P w K mg base j X NS WS G) (hm : mg "isinstance" = none) (hg : ("isinstance" : Str) ∈ G) (ha : PA X (e :: es) t)
    (he : starEach (e :: es) X.env = (false, eval e X.env) :: starEach es X.env := by rfl) (hpl : (backTo pos (starEach es X.env)).any (·.1) = false := by rfl) : PE X (.Call (.Name "isinstance" p) (e :: es) [] pos) (tCB (rIsi K) t) := by
  have q := h.eK
  subst q
  exact n_b h hm call_isi PyProof.Rows.boot_isinstance hg ha he hpl
theorem n_isiT {e : Expr} {es : List Expr} (h : Nm P w K mg base j X NS WS G) (hm : mg "isinstance" = none) (hg : ("isinstance" : Str) ∈ G) (ha : PA X (e :: es) t)
    (he : starEach (e :: es) X.env = (false, eval e X.env) :: starEach es X.env := by rfl) (hpl : (backTo pos (starEach es X.env)).any (·.1) = false := by rfl) : PE X (.Call (.Name "isinstance" p) (e :: es) [] pos) (tCB (rIsiT K) t) := by
  have q := h.eK
  subst q
  exact n_b h hm call_isiT PyProof.Rows.boot_isinstance hg ha he hpl
end
/-! ### equal data of a depth -/
inductive Eqd (K : PySem.W.Frag) (H : Hp) : Nat → V → V → Prop
  | flat {n : Nat} {v : V} (h : flatV v = true) : Eqd K H n v v
  | lst {n : Nat} {a b : Addr} {xs ys : List V} (ha : SqL K H a xs) (hb : SqL K H b ys) (hl : xs.length = ys.length) (hz : xs.length ≤ 1000) (h : ∀ (i : Nat) x y, xs[i]? = some x → ys[i]? = some y → Eqd K H n x y) : Eqd K H (n + 1) (.ref a) (.ref b)
  | tup {n : Nat} {a b : Addr} {xs ys : List V} (ha : SqT K H a xs) (hb : SqT K H b ys) (hl : xs.length = ys.length) (hz : xs.length ≤ 1000) (h : ∀ (i : Nat) x y, xs[i]? = some x → ys[i]? = some y → Eqd K H n x y) : Eqd K H (n + 1) (.ref a) (.ref b)
theorem Eqd.same {K : PySem.W.Frag} {H H' : Hp} (e : Same H H') {n : Nat} {x y : V} (h : Eqd K H n x y) : Eqd K H' n x y := by
  induction h with
  | flat h => exact .flat h
  | lst ha hb hl hz _ ih => exact .lst (Same.seq e ha) (Same.seq e hb) hl hz ih
  | tup ha hb hl hz _ ih => exact .tup (sqT_same e ha) (sqT_same e hb) hl hz ih
theorem ty_l {K : PySem.W.Frag} {H : Hp} {a : Addr} {xs : List V} (h : SqL K H a xs) : TyX K H (.ref a) (.type "list") := by
  rcases h with (h | ⟨o, h⟩) | ⟨o, its, n, h, hc, _⟩
  · exact .base (.lst h)
  · exact .base (.frz h)
  · exact .kList h hc
theorem ty_t {K : PySem.W.Frag} {H : Hp} {a : Addr} {xs : List V} (h : SqT K H a xs) : TyX K H (.ref a) (.type "tuple") := by
  rcases h with (h | ⟨o, h⟩) | ⟨o, its, n, h, hc, _⟩
  · exact .base (.tup h)
  · exact .fTuple h
  · exact .kTuple h hc
theorem ty_flat {K : PySem.W.Frag} {H : Hp} {v : V} (h : flatV v = true) : ∃ T, TyX K H v (.type T) ∧ (T = "NoneType" ∨ T = "bool" ∨ T = "int" ∨ T = "str") := by
  cases v with
  | non => exact ⟨_, .base .non, .inl rfl⟩
  | bl b => exact ⟨_, .base (.bl b), .inr (.inl rfl)⟩
  | int i => exact ⟨_, .base (.int i), .inr (.inr (.inl rfl))⟩
  | str s => exact ⟨_, .base (.str s), .inr (.inr (.inr rfl))⟩
  | _ => cases h
theorem scal_flat {v : V} (h : flatV v = true) (n : v ≠ .non) : scal v v = true := by
  cases v with
  | non => exact absurd rfl n
  | bl b => rfl
  | int i => rfl
  | str s => rfl
  | _ => cases h
def spS (K : PySem.W.Frag) : Nat → Sp
  | 0 => fun _ _ _ _ => False
  | n + 1 => fun vs H Q _ => ∃ x y, vs = [x, y] ∧ Eqd K H n x y ∧ ∀ H', Same H H' → Q (.bl true) H'
end Tw
namespace Tw
open PySem PySem.Spec PyProof.Rows L2
section
variable {P : Program} {w : World} {K : PySem.W.Frag} {mg : Str → Option Value} {base : Heap} {j k n : Nat} {X : Cx} {NS WS : List (Str × Nat)} {G : List Str} {x m : Str} {i : Nat} {p pos apos : Pos} {e o : Expr} {es : List Expr} {t tk : TA} {ps ks : List Str} {sp : Sp} {te ta : TE} {C : Addr} {kws : List Keyword} {mc : Value}
/-- C.m(e, ..), m a staticmethod of the class C -/
structure Sf (P : Program) (w : World) (K : PySem.W.Frag) (mg : Str → Option Value) (base : Heap) (k : Nat) (C : Addr) (m : Str) (ps : List Str) (sp : Sp) : Prop where
  ex : ∃ q f fd mc rest, ClX.CRead K C mc ∧ PySem.W.findCls K (.ref C) mc m = some (.get (.builtin "staticmethod.__get__") (.ref q) .none (.ref C)) ∧ PySem.W.recIn K q "staticmethod" = some (.ref f :: rest) ∧
    PySem.W.keepIn K (.ref f) = true ∧ Binds K fd ps [] ∧ FnOk P w K mg base CX0 k f fd ps sp
theorem n_sm {pl : Sem Bool} (h : Nm P w K mg base j X NS WS G) (hm : mg x = some (.ref C)) (hg : x ∈ G) (M : Sf P w K mg base k C m ps sp) (hk : k ≤ j) (ha : PA X (e :: es) t)
    (hst : starEach (e :: es) X.env = (false, eval e X.env) :: starEach es X.env := by rfl) (hpl : (backTo pos (starEach es X.env)).any (·.1) = false := by rfl)
    (ht : eval (.Call (.Attribute (.Name x p) m apos) (e :: es) [] pos) X.env = (do
      let ov ← eval (.Name x p) X.env; standAt apos.atName; let (f, first) ← holding [ov] (getMethod ov m pl)
      callWith pos f first (backTo pos (starEach (e :: es) X.env)) (backToKw pos (keywordEach [] X.env))) := by rfl) : PE X (.Call (.Attribute (.Name x p) m apos) (e :: es) [] pos) (tD sp t) := by
  have hn := n_glR (pos := p) h hm hg
  obtain ⟨h1, h2, h3, h4, h5, hr, _, _, _, _, hgl⟩ := h
  subst h1 h2 h3 h4 h5
  obtain ⟨q, f, fd, mc, rest, rd, hf, hp, hkp, hb, F⟩ := M.ex
  refine ⟨fun pins s σ H Q I h => ?_⟩
  have h' : tC (.ref C) σ H (fun v H1 => v = .ref C ∧ t σ H1 fun vs H2 => sp vs H2 Q E0) := ⟨rfl, h⟩
  refine PySem.W.methodCall_KW (pl := pl) (thn (hn.run pins s σ H _ I h') fun u s1 ⟨v, H1, I1, rx, ev, q1⟩ => ?_) ht
  subst ev
  obtain rfl : u = Value.ref C := rx
  refine PySem.W.method_cls I1.kIn rd.ga (PySem.W.cls_bind I1.kIn rd.rd hf (wpAny_call (PySem.W.sm_get (s := { s1 with toks := s1.toks + 1 }) I1.kIn hp (PySem.W.handed_on rfl ?_))))
  refine PySem.W.callWith_K (first := []) (h₀ := X.base) I.ok.mod.kin hkp (thn (ha.run pos pins _ σ H1 _ (I1.tok _) q1) fun us s2 ⟨vs, H2, I2, r, q2⟩ => ⟨I2.kIn, ?_⟩) hst hpl
  exact run_fn (us := us) (vs := vs) F (hr.mono hk) hb .nil pass0 I2 r (by rw [List.append_nil]; exact q2)

/-- f(k = v, ..), f an instance of C -/
theorem call_kw {M : Model} {A : Around} {E : Value → Shared → Prop} {s : Shared} {a : Addr} {pos : Pos} {Q : Value → Shared → Prop} {kws : List (Option Str × Sem Value)} (hplain : kws.any (·.1.isNone) = false)
    (h : wpAny M A (evalArgs (.ref a) true [] kws) (fun z s₁ => (∃ C ox od, PySem.W.InstAt s₁.heap a ox C od ∧ ox.data = .plain) ∧ wpAny M A (call (.ref a) z.pos z.kw) Q E s₁) E s) : wpAny M A (callWith pos (.ref a) [] [] kws) Q E s := by
  unfold callWith
  refine wpAny_bind (wpAny_holding (wpAny_mono h (fun z s₁ hz => ?_) fun _ _ y => y))
  obtain ⟨⟨C, ox, od, J, hd⟩, hz⟩ := hz
  have L := PySem.W.kco_keeper (M := M) J hd
  refine wpAny_bind (wpAny_standAt ?_)
  simp only [List.any_nil, Bool.false_or, hplain, List.nil_append]
  refine wpAny_bind (L.here ?_)
  refine wpAny_bind (wpAny_operateT (wpAny_mono hz (fun r s₂ hr => ?_) fun _ _ y => y))
  exact wpAny_bind (wpAny_holding (wpAny_point (wpAny_pure hr)))
structure CfK (P : Program) (w : World) (K : PySem.W.Frag) (mg : Str → Option Value) (base : Heap) (k : Nat) (C : Addr) (ps ks : List Str) (gV : List V → List V → List V) (sp : Sp) : Prop where
  ex : ∃ f fd g, StX.CallO K C f ∧ KBn K fd ps 1 ks g gV ∧ FnOk P w K mg base CX0 k f fd ps sp
def tCK (C : Addr) (q : Nat) (gV : List V → List V → List V) (sp : Sp) (tf : TE) (tk : TA) : TE := fun σ H Q => tf σ H fun y H1 => ∃ a, y = V.ref a ∧ tk σ H1 fun zs H2 => zs.length = q ∧ (∃ dx fs, H2 a = some (.ins C dx fs)) ∧ sp (gV [V.ref a] zs) H2 Q E0
theorem n_coK {tf : TE} {fe : Expr} {gV : List V → List V → List V} (h : Nm P w K mg base j X NS WS G) (M : CfK P w K mg base k C ps ks gV sp) (hk : k ≤ j) (hf : PE X fe tf) (hkw : PK X kws tk)
    (hall : (backToKw pos (keywordEach kws X.env)).all (·.1.isSome) = true := by rfl) (hks : (backToKw pos (keywordEach kws X.env)).filterMap (·.1) = ks := by rfl) (hpl : (backToKw pos (keywordEach kws X.env)).any (·.1.isNone) = false := by rfl)
    (ht : eval (.Call fe [] kws pos) X.env = (do callWith pos (← eval fe X.env) [] (backTo pos (starEach [] X.env)) (backToKw pos (keywordEach kws X.env))) := by rfl) : PE X (.Call fe [] kws pos) (tCK C ks.length gV sp tf tk) := by
  obtain ⟨h1, h2, h3, h4, h5, hr, _, _, _, _, hgl⟩ := h
  subst h1 h2 h3 h4 h5
  obtain ⟨f, fd, g, hc, hb, F⟩ := M.ex
  refine ⟨fun pins s σ H Q I h => ?_⟩
  rw [ht]
  refine wpAny_bind (thn (hf.run pins s σ H _ I h) fun u s1 ⟨y, H1, I1, ry, a, ey, q⟩ => ?_)
  subst ey
  obtain rfl : u = Value.ref a := ry
  refine call_kw hpl ?_
  refine evalArgs_kw2_nil (env := X.env) hall ?_
  refine thn (hkw.run pos pins s1 σ H1 _ I1 q) fun ws s2 ⟨zs, H2, I2, rz, l2, ⟨dx, fs, hi⟩, q2⟩ => ?_
  obtain ⟨ox, od, J, hd⟩ := StX.insC_at I2 (.inr ⟨dx, fs, hi⟩)
  refine ⟨⟨C, ox, od, J, hd⟩, ?_⟩
  rw [hks]
  have r2 := hb.rel (.cons rfl .nil : Vals [V.ref a] [Value.ref a]) rz
  refine wpAny_call (PySem.W.kco_code I2.kIn J hd hc.at_ hc.fn hc.fi (codeAny_mono (F.run X.A X.stack s2 H2 ⟨[.ref a], ks.zip ws⟩ _ _ Q E0 (hr.mono hk) I2.env0 (hb.to s2 [.ref a] ws I2.kIn rfl (rz.length.symm.trans l2)) r2 q2) fun r s' hq => ?_))
  cases r with
  | error e => exact hq.elim
  | ok fl =>
    cases fl with
    | ret u => exact I2.after hq
    | next => exact hq.elim
    | brk => exact hq.elim
    | cont => exact hq.elim
end
end Tw
namespace Tw
open PySem PySem.Spec PyProof.Rows L2
/-! ### tuples and lists of whole numbers, as data -/
theorem lay_ints : ∀ ds : List Int, PyData.canLayAll0 (ds.map PyData.int) = true
  | [] => by simp [PyData.canLayAll0]
  | d :: r => by
    rw [List.map_cons, PyData.canLayAll0, lay_ints r, PyData.canLay0]
    rfl
theorem depth_ints : ∀ ds : List Int, PyData.depthAll (ds.map PyData.int) = 0
  | [] => by simp [PyData.depthAll]
  | d :: r => by
    rw [List.map_cons, PyData.depthAll, depth_ints r, PyData.depth]
    rfl
theorem shaped_t (ds : List Int) : SeqAt.shaped (.tuple (ds.map PyData.int)) = true := by
  unfold SeqAt.shaped
  rw [PyData.canLay0, PyData.depth, lay_ints, depth_ints]
  rfl
theorem shaped_l (ds : List Int) : SeqAt.shaped (.list (ds.map PyData.int)) = true := by
  unfold SeqAt.shaped
  rw [PyData.canLay0, PyData.depth, lay_ints, depth_ints]
  rfl
theorem dp_ints {K : PySem.W.Frag} {H : Hp} : ∀ ds : List Int, DpAll K H (ds.map V.int) (ds.map PyData.int)
  | [] => .nil
  | d :: r => .cons (.int d) (dp_ints r)
/-! ### slices and sums of tuples -/
theorem cut_take (xs : List V) (n : Nat) : cutV xs none (some (n : Int)) = xs.take n := by
  unfold cutV
  rw [HT.sIx_nat, show HT.sIx xs.length 0 none = 0 from rfl, List.drop_zero, Nat.sub_zero]
  by_cases c : n ≤ xs.length
  · rw [Nat.min_eq_left c]
  · rw [Nat.min_eq_right (by omega), List.take_length, List.take_of_length_le (by omega)]
theorem sl_any {K : PySem.W.Frag} {H : Hp} {a : Addr} {xs : List V} {n : Nat} {Q : V → Hp → Prop} (h : H a = some (.tup xs)) (k : ∀ r H', Same H H' → H' r = some (.tup (xs.take n)) → Q (.ref r) H') : rSlA K (.ref a) none (some (n : Int)) H Q := by
  refine ⟨a, xs, rfl, SqT.of h, fun w => k a H (fun _ _ e => e) ?_, fun _ p hp => ?_⟩
  · have e := w.2
    rw [HT.sIx_nat] at e
    rw [h, List.take_of_length_le (by omega)]
  · rw [cut_take]
    exact k p _ (same_new hp) upd_same
theorem sl_list_any {K : PySem.W.Frag} {H : Hp} {a : Addr} {xs : List V} {n : Nat} {Q : V → Hp → Prop} (h : H a = some (.lst xs)) (k : ∀ r H', Same H H' → H' r = some (.lst (xs.take n)) → Q (.ref r) H') : rSlL K (.ref a) none (some (n : Int)) H Q := by
  refine ⟨a, xs, rfl, SqL.of h, fun p hp => ?_⟩
  rw [cut_take]
  exact k p _ (same_new hp) upd_same
theorem cat_any {K : PySem.W.Frag} {H : Hp} {a b : Addr} {xs ys : List V} {Q : V → Hp → Prop} (ha : H a = some (.tup xs)) (hb : H b = some (.tup ys)) (hz : xs.length + ys.length ≤ 1000) (k : ∀ r H', Same H H' → H' r = some (.tup (xs ++ ys)) → Q (.ref r) H') : rCatA K (.ref a) (.ref b) H Q := by
  refine ⟨a, b, xs, ys, rfl, rfl, SqT.of ha, SqT.of hb, Nat.le_of_lt (small1000 hz), fun e => ?_, fun _ e => ?_, fun _ _ p hp => ?_⟩
  · subst e
    exact k b H (fun _ _ e => e) hb
  · subst e
    refine k a H (fun _ _ e => e) ?_
    rw [List.append_nil]; exact ha
  · exact k p _ (same_new hp) upd_same
/-! ### equal data out of whole numbers -/
/-! ### what is above does not change what is below -/
end Tw
namespace Tw
open PySem PySem.Spec PyProof.Rows L2
/-! ### != by an own == -/
section
variable {prog : Program} {w : World} {A : Around} {E : Value → Shared → Prop} {s : Shared} {K : PySem.W.Frag} {x y C f : Addr} {ox : Obj} {od : Option Obj}
end
section
variable {X : Cx} {n : Nat} {C : Addr}
structure Ow (P : Program) (w : World) (K : PySem.W.Frag) (mg : Str → Option Value) (base : Heap) (k : Nat) (C : Addr) (ps : List Str) (sp : Sp) : Prop where
  ex : ∃ f fd, PySem.W.findIn K (.ref C) "__eq__" = some (some (.ref f)) ∧ PySem.W.isFn K (.ref f) = true ∧ Binds K fd ps [] ∧ FnOk P w K mg base CX0 k f fd ps sp
  ne : PySem.W.findIn K (.ref C) "__ne__" = some (some (.builtin "object.__ne__"))
  mo : PySem.W.mroIn K C (.type "object") = some true
end
/-! ### a comprehension over a tuple or list whose items are made anew -/
theorem lcA {K : PySem.W.Frag} {J : It} {xs : List V} {R : Nat → V → Hp → Prop} {g : TG} {te : TE} {vs : List Nat} {σ : L2.St} {H1 : Hp} {D : Addr} {Qd : Hp → Prop} (hD : H1 D = none) (hz : xs.length < sizeLine)
    (hgo : ∀ H (j : Nat), Same H1 H → j < xs.length → J.go j H) (hstop : ∀ H, Same H1 H → J.stop xs.length H)
    (hR : ∀ i y H H', Same H H' → R i y H → R i y H') (hRl : ∀ i y H r ys zs, H r = some (.lst ys) → R i y H → R i y (upd H r (.lst zs)))
    (he : ∀ (j : Nat) x H' v H2 (Qk : V → Hp → Prop), xs[j]? = some x → Same H1 H' → J.yld j H' v H2 → (∀ y H3, Same H' H3 → R j y H3 → Qk y H3) → g v (wipe σ vs) H2 fun σ2 H3 => wipe σ2 vs = wipe σ vs ∧ te σ2 H3 Qk)
    (hd : ∀ ys H', Same H1 H' → H' D = some (.lst ys) → ys.length = xs.length → (∀ (i : Nat) y, ys[i]? = some y → R i y H') → Qd H')
    (hgm : ∀ v σ H (A B : L2.St → Hp → Prop), (∀ σ H, A σ H → B σ H) → g v σ H A → g v σ H B) :
    ∃ W : Nat → Nat → Hp → Prop, (∃ m, W 0 m (upd H1 D (.lst []))) ∧ ∀ i' m H, W i' m H →
      (J.stop i' H ∧ Qd H) ∨ (J.go i' H ∧ ∃ Nx : Hp → Prop, (∀ H', Nx H' → ∃ m', m' < m ∧ W (i' + 1) m' H') ∧ ∀ x H', J.yld i' H x H' → g x (wipe σ vs) H' fun σ2 H2 => wipe σ2 vs = wipe σ vs ∧ tYes σ2 H2 fun b H3 =>
        if b = true then te σ2 H3 fun y H4 => ∃ acc, H4 D = some (.lst acc) ∧ acc.length < sizeLine ∧ Nx (upd H4 D (.lst (acc ++ [y]))) else Nx H3) := by
  refine ⟨fun j m H => m = xs.length - j ∧ j ≤ xs.length ∧ Same H1 H ∧ ∃ ys, H D = some (.lst ys) ∧ ys.length = j ∧ ∀ (i : Nat) y, ys[i]? = some y → R i y H,
    ⟨xs.length, rfl, Nat.zero_le _, same_new hD, [], upd_same, rfl, fun i y h => by simp at h⟩, ?_⟩
  rintro j m H ⟨rfl, hj, s1, ys, hDl, hyl, hy⟩
  by_cases c : j < xs.length
  · have hx : xs[j]? = some xs[j] := List.getElem?_eq_getElem c
    refine .inr ⟨hgo H j s1 c, fun H' => Same H1 H' ∧ ∃ ys, H' D = some (.lst ys) ∧ ys.length = j + 1 ∧ ∀ (i : Nat) y, ys[i]? = some y → R i y H', fun H' p => ⟨xs.length - (j + 1), by omega, rfl, c, p⟩, ?_⟩
    intro v H' hyld
    refine hgm _ _ _ _ _ (fun σ2 H2 p => ⟨p.1, yes_ p.2⟩) (he j _ H v H' (fun y H4 => ∃ acc, H4 D = some (.lst acc) ∧ acc.length < sizeLine ∧ Same H1 (upd H4 D (.lst (acc ++ [y]))) ∧ ∃ ys, (upd H4 D (.lst (acc ++ [y]))) D = some (.lst ys) ∧ ys.length = j + 1 ∧ ∀ (i : Nat) z, ys[i]? = some z → R i z (upd H4 D (.lst (acc ++ [y])))) hx s1 hyld fun y H3 s3 r => ?_)
    refine ⟨ys, s3 _ _ hDl, by omega, same_put (Same.trans s1 s3) hD, ys ++ [y], upd_same, by simp [hyl], fun i z hz' => ?_⟩
    by_cases ci : i < ys.length
    · rw [List.getElem?_append_left ci] at hz'
      exact hRl _ _ _ _ _ _ (s3 _ _ hDl) (hR _ _ _ _ s3 (hy i z hz'))
    · rw [List.getElem?_append_right (by omega)] at hz'
      by_cases c0 : i - ys.length = 0
      · rw [c0] at hz'
        obtain rfl := Option.some.inj hz'
        have ei : i = j := by omega
        subst ei
        exact hRl _ _ _ _ _ _ (s3 _ _ hDl) r
      · obtain ⟨q, hq⟩ : ∃ q, i - ys.length = q + 1 := ⟨i - ys.length - 1, by omega⟩
        rw [hq] at hz'
        simp at hz'
  · have e : j = xs.length := by omega
    subst e
    exact .inl ⟨hstop H s1, hd ys H s1 hDl hyl hy⟩
end Tw
namespace Tw
open PySem PySem.Spec PyProof.Rows L2
/-! ### the undone turner -/
section
variable {p n d f t s : Int} {M : Mach}
theorem md_in (h : IsP p) (x : Int) : 0 ≤ x % p ∧ x % p < p := by rcases h with rfl | rfl | rfl | rfl <;> omega
theorem behM_in (h : IsP p) : ∀ (ds : List Int) (s : Int), ∀ d ∈ behM p M s ds, 0 ≤ d ∧ d < p
  | [], s, d, hd => by cases hd
  | e :: r, s, d, hd => by
    rcases List.mem_cons.mp (show d ∈ (e + turnM M s) % p :: behM p M (goM M s e) r from hd) with rfl | hd
    · exact md_in h _
    · exact behM_in h r _ d hd
/-! the law's own way: a list filled place by place -/
end
end Tw
namespace Tw
open PySem PySem.Spec PyProof.Rows L2
/-! ### machines as data -/
theorem eqv_ints2 : ∀ ds es : List Int, PyData.eqvAll (ds.map PyData.int) (es.map PyData.int) = decide (ds = es)
  | [], [] => by simp [PyData.eqvAll]
  | [], e :: r => by simp [PyData.eqvAll]
  | d :: r, [] => by simp [PyData.eqvAll]
  | d :: r, e :: q => by
    rw [List.map_cons, List.map_cons, PyData.eqvAll, eqv_ints2 r q, PyData.eqv]
    by_cases h : d = e <;> by_cases g : r = q <;> simp [h, g]
end Tw
namespace Tw
open PySem PySem.Spec PyProof.Rows L2
/-! ### the product of two machines, its pairs numbered as they are reached -/
abbrev Key2 := Int × Int
def plc : List Key2 → Key2 → Nat
  | [], _ => 0
  | c :: r, k => if c = k then 0 else plc r k + 1
theorem plc_app : ∀ {ks : List Key2} {k : Key2} (r : List Key2), k ∈ ks → plc (ks ++ r) k = plc ks k
  | [], k, r, h => by cases h
  | c :: q, k, r, h => by
    rw [List.cons_append]
    unfold plc
    by_cases e : c = k
    · rw [if_pos e, if_pos e]
    · rw [if_neg e, if_neg e, plc_app r ((List.mem_cons.mp h).resolve_left fun z => e z.symm)]
theorem plc_snoc : ∀ {ks : List Key2} {k : Key2}, k ∉ ks → plc (ks ++ [k]) k = ks.length
  | [], k, h => by simp [plc]
  | c :: q, k, h => by
    rw [List.cons_append]
    unfold plc
    have e : c ≠ k := fun z => h (by rw [z]; exact List.mem_cons_self)
    rw [if_neg e, plc_snoc fun z => h (List.mem_cons_of_mem _ z)]; rfl
def addK (ks : List Key2) (k : Key2) : List Key2 := if k ∈ ks then ks else ks ++ [k]
section
variable (p : Int) (M N : Mach)
def nxtP (k : Key2) (x : Nat) : Key2 := (goM M k.1 (x : Int), goM N k.2 (((x : Int) + turnM M k.1) % p))
def rowK (k : Key2) (ks : List Key2) : Nat → List Key2
  | 0 => ks
  | i + 1 => addK (rowK k ks i) (nxtP p M N k i)
def goalsK (k : Key2) (ks : List Key2) : Nat → List Int
  | 0 => []
  | i + 1 => goalsK k ks i ++ [(plc (rowK p M N k ks (i + 1)) (nxtP p M N k i) : Int)]
def keyJ (s0 : Key2) : Nat → List Key2
  | 0 => [s0]
  | j + 1 => rowK p M N ((keyJ s0 j).getD j (0, 0)) (keyJ s0 j) p.toNat
def outS (k : Key2) (ks : List Key2) : Int × List Int := ((turnM M k.1 + turnM N k.2) % p, goalsK p M N k ks p.toNat)
def outJ (s0 : Key2) : Nat → Mach
  | 0 => []
  | j + 1 => outJ s0 j ++ [outS p M N ((keyJ p M N s0 j).getD j (0, 0)) (keyJ p M N s0 j)]
end
section
variable {p : Int} {M N : Mach}
/-- a pair of states in bounds -/
def InK (M N : Mach) (k : Key2) : Prop := 0 ≤ k.1 ∧ k.1 < (M.length : Int) ∧ 0 ≤ k.2 ∧ k.2 < (N.length : Int)
theorem nodup_le : ∀ {ks all : List Key2}, ks.Nodup → ks ⊆ all → ks.length ≤ all.length
  | [], _, _, _ => Nat.zero_le _
  | c :: r, all, hn, hs => by
    have hc : c ∈ all := hs List.mem_cons_self
    have hr : r.Nodup := (List.nodup_cons.mp hn).2
    have hcr : c ∉ r := (List.nodup_cons.mp hn).1
    have h := nodup_le (all := all.erase c) hr fun d hd => (List.mem_erase_of_ne (fun e : d = c => hcr (by rw [← e]; exact hd))).mpr (hs (List.mem_cons_of_mem _ hd))
    rw [List.length_erase_of_mem hc] at h
    have : 0 < all.length := List.length_pos_of_mem hc
    rw [List.length_cons]
    omega
theorem sum_same (n : Nat) : ∀ m : Nat, ((List.range m).map fun _ => n).sum = m * n
  | 0 => by simp
  | m + 1 => by
    rw [List.range_succ, List.map_append, List.sum_append, sum_same n m]
    simp [Nat.succ_mul]
/-- lists of pairs in bounds without a pair twice are no longer than all pairs -/
theorem inK_len {ks : List Key2} (hn : ks.Nodup) (h : ∀ c ∈ ks, InK M N c) : ks.length ≤ M.length * N.length := by
  let all : List Key2 := (List.range M.length).flatMap fun (a : Nat) => (List.range N.length).map fun (b : Nat) => ((a : Int), (b : Int))
  have hl : all.length = M.length * N.length := by
    show ((List.range M.length).flatMap fun (a : Nat) => (List.range N.length).map fun (b : Nat) => (((a : Int), (b : Int)) : Key2)).length = _
    simp only [List.length_flatMap, List.length_map, List.length_range]
    exact sum_same N.length M.length
  have hs : ks ⊆ all := fun c hc => by
    obtain ⟨a0, a1, b0, b1⟩ := h c hc
    refine List.mem_flatMap.mpr ⟨c.1.toNat, List.mem_range.mpr (by omega), List.mem_map.mpr ⟨c.2.toNat, List.mem_range.mpr (by omega), ?_⟩⟩
    exact Prod.ext (by show ((c.1.toNat : Nat) : Int) = c.1; omega) (by show ((c.2.toNat : Nat) : Int) = c.2; omega)
  rw [← hl]
  exact nodup_le hn hs
/-! the product when all pairs are done -/
structure Done (p : Int) (M N : Mach) (s0 : Key2) (J : Nat) : Prop where
  go : ∀ i, i < J → i < (keyJ p M N s0 i).length
  stop : (keyJ p M N s0 J).length = J
theorem Done.one {s0 : Key2} {J L : Nat} (a : Done p M N s0 J) (b : Done p M N s0 L) : J = L := by
  rcases Nat.lt_trichotomy J L with h | h | h
  · have := b.go J h
    have := a.stop
    omega
  · exact h
  · have := a.go L h
    have := b.stop
    omega
end
end Tw
namespace Tw
open PySem PySem.Spec PyProof.Rows L2
/-! ### x * y by an own __mul__ -/
section
variable {X : Cx} {n : Nat} {C : Addr}
structure Om (P : Program) (w : World) (K : PySem.W.Frag) (mg : Str → Option Value) (base : Heap) (k : Nat) (C : Addr) (ps : List Str) (sp : Sp) : Prop where
  ex : ∃ f fd, PySem.W.findIn K (.ref C) "__mul__" = some (some (.ref f)) ∧ PySem.W.isFn K (.ref f) = true ∧ Binds K fd ps [] ∧ FnOk P w K mg base CX0 k f fd ps sp
  sf : PySem.W.selfFirst K C = true
end
end Tw
namespace Tw
open PySem PySem.Spec PyProof.Rows L2
/-! ### lists of pairs of whole numbers, as data -/
def keyD (k : Key2) : PyData := .tuple [.int k.1, .int k.2]
def KyAt (H : Hp) (v : V) (k : Key2) : Prop := ∃ a, v = .ref a ∧ H a = some (.tup [.int k.1, .int k.2])
def KysAt (H : Hp) (xs : List V) (ks : List Key2) : Prop := xs.length = ks.length ∧ ∀ (i : Nat) x k, xs[i]? = some x → ks[i]? = some k → KyAt H x k
theorem KyAt.same {H H' : Hp} {v : V} {k : Key2} (h : KyAt H v k) (e : Same H H') : KyAt H' v k := by
  obtain ⟨a, rfl, h1⟩ := h
  exact ⟨a, rfl, e _ _ h1⟩
theorem KysAt.same {H H' : Hp} {xs : List V} {ks : List Key2} (h : KysAt H xs ks) (e : Same H H') : KysAt H' xs ks := ⟨h.1, fun i x k h1 h2 => (h.2 i x k h1 h2).same e⟩
theorem KyAt.lst {H : Hp} {v : V} {k : Key2} {r : Addr} {ys zs : List V} (x : KyAt H v k) (h : H r = some (.lst ys)) : KyAt (upd H r (.lst zs)) v k := by
  obtain ⟨a, rfl, h1⟩ := x
  exact ⟨a, rfl, by rw [upd_ne (ne_of h1 h (by intro q; cases q))]; exact h1⟩
theorem KysAt.lst {H : Hp} {xs : List V} {ks : List Key2} {r : Addr} {ys zs : List V} (x : KysAt H xs ks) (h : H r = some (.lst ys)) : KysAt (upd H r (.lst zs)) xs ks := ⟨x.1, fun i v k h1 h2 => (x.2 i v k h1 h2).lst h⟩
theorem KysAt.snoc {H : Hp} {xs : List V} {ks : List Key2} {v : V} {k : Key2} (x : KysAt H xs ks) (y : KyAt H v k) : KysAt H (xs ++ [v]) (ks ++ [k]) := by
  refine ⟨by simp [x.1], fun i u c h1 h2 => ?_⟩
  by_cases e : i < xs.length
  · rw [List.getElem?_append_left e] at h1
    rw [List.getElem?_append_left (by rw [← x.1]; exact e)] at h2
    exact x.2 i u c h1 h2
  · rw [List.getElem?_append_right (by omega)] at h1
    rw [List.getElem?_append_right (by rw [← x.1]; omega), ← x.1] at h2
    have z : i - xs.length = 0 := by
      rcases Nat.eq_zero_or_pos (i - xs.length) with z | z
      · exact z
      · rw [List.getElem?_eq_none (by simp; omega)] at h1; cases h1
    rw [z] at h1 h2
    obtain rfl := Option.some.inj h1
    obtain rfl := Option.some.inj h2
    exact y
theorem eqv_key (k c : Key2) : PyData.eqv (keyD k) (keyD c) = decide (k = c) := by
  obtain ⟨a, b⟩ := k
  obtain ⟨d, e⟩ := c
  unfold keyD
  rw [PyData.eqv, PyData.eqvAll, PyData.eqvAll, PyData.eqvAll, PyData.eqv, PyData.eqv]
  by_cases h : a = d <;> by_cases g : b = e <;> simp [h, g]
theorem any_key (ks : List Key2) (k : Key2) : ((ks.map keyD).any fun z => PyData.eqv z (keyD k)) = decide (k ∈ ks) := by
  induction ks with
  | nil => rfl
  | cons c r ih =>
    rw [List.map_cons, List.any_cons, ih, eqv_key]
    by_cases h : c = k
    · subst h; simp
    · have h2 : ¬ k = c := fun e => h e.symm
      simp [h, h2]
theorem lay_key (k : Key2) : PyData.canLay0 (keyD k) = true := by
  unfold keyD
  rw [PyData.canLay0, PyData.canLayAll0, PyData.canLayAll0, PyData.canLayAll0, PyData.canLay0, PyData.canLay0]
  rfl
theorem depth_key (k : Key2) : PyData.depth (keyD k) = 1 := by
  unfold keyD
  rw [PyData.depth, PyData.depthAll, PyData.depthAll, PyData.depthAll, PyData.depth, PyData.depth]
  rfl
theorem lay_keys : ∀ M : List Key2, PyData.canLayAll0 (M.map keyD) = true
  | [] => by simp [PyData.canLayAll0]
  | d :: r => by rw [List.map_cons, PyData.canLayAll0, lay_keys r, lay_key]; rfl
theorem depth_keys : ∀ M : List Key2, PyData.depthAll (M.map keyD) ≤ 1
  | [] => by simp [PyData.depthAll]
  | d :: r => by
    rw [List.map_cons, PyData.depthAll, depth_key]
    have := depth_keys r
    omega
theorem shaped_key (k : Key2) : SeqAt.shaped (keyD k) = true := by
  unfold SeqAt.shaped
  rw [lay_key, depth_key]; rfl
theorem shaped_keys (M : List Key2) : SeqAt.shaped (.list (M.map keyD)) = true := by
  have h := depth_keys M
  unfold SeqAt.shaped
  rw [PyData.canLay0, PyData.depth, lay_keys]
  simp only [Bool.true_and, decide_eq_true_eq]
  omega
theorem dp_key {K : PySem.W.Frag} {H : Hp} {v : V} {k : Key2} (h : KyAt H v k) : Dp K H v (keyD k) := by
  obtain ⟨a, rfl, h1⟩ := h
  exact .tup (SqT.of h1) (.cons (.int k.1) (.cons (.int k.2) .nil))
theorem dp_keys {K : PySem.W.Frag} {H : Hp} : ∀ (xs : List V) (ks : List Key2), KysAt H xs ks → DpAll K H xs (ks.map keyD)
  | [], [], _ => .nil
  | [], s :: r, h => by cases h.1
  | x :: xs, [], h => by cases h.1
  | x :: xs, s :: r, h => .cons (dp_key (h.2 0 x s rfl rfl)) (dp_keys xs r ⟨Nat.succ.inj h.1, fun i y t h1 h2 => h.2 (i + 1) y t h1 h2⟩)
theorem notIn_keys {K : PySem.W.Frag} {H : Hp} {v : V} {b : Addr} {xs : List V} {ks : List Key2} {k : Key2} {Q : V → Hp → Prop} (hv : KyAt H v k) (hb : H b = some (.lst xs)) (hx : KysAt H xs ks) (q : Q (.bl (!decide (k ∈ ks))) H) : rNotInD K v (.ref b) H Q := by
  refine ⟨_, _, dp_key hv, .lst (SqL.of hb) (dp_keys xs ks hx), shaped_key k, shaped_keys ks, ?_⟩
  rw [any_key]
  exact q
end Tw
namespace Tw
open PySem PySem.Spec PyProof.Rows L2
/-! ### {k: v}, the key a tuple -/
def tDispT (tk tv : TE) : TE := fun σ H Q => ∀ d, H d = none → tk σ (upd H d (.dT [])) fun x H1 => tv σ H1 fun y H2 => ∃ (b : Addr) (k : List Key), x = .ref b ∧ H2 b = some (.tup (k.map kV)) ∧ H2 d = some (.dT []) ∧ Q (.ref d) (upd H2 d (.dT [(k, y)]))
theorem pe_dispT {X : Cx} {pos : Pos} {ke ve : Expr} {tk tv : TE} (hu : X.A.units + 1 < cLine) (hk : PE X ke tk) (hv : PE X ve tv) : PE X (.Dict [some ke] [ve] pos) (tDispT tk tv) := by
  refine ⟨fun pins s σ H Q I q => ?_⟩
  have hn := I.hok.fresh (Nat.le_refl s.heap.objs.size)
  have I1 := I.laid (a := s.heap.objs.size) (o := .dT []) (h' := s.heap.push { cls := .type "dict", data := .dict #[] }) (t' := s.toks) (fun _ _ q => Heap.get?_push_of_some _ q) (Nat.le_refl _) (dt_empty s.heap I.big)
  rw [arm_eval_Dict, zip_pairTrees [some ke] [ve] X.env pos rfl rfl, dictDisplay_pairs (pairTrees [some ke] [ve] X.env pos) (by simp [pairTrees]) (by simp [pairTrees])]
  refine wpAny_bind (wpAny_standAt (wpAny_bind (wpAny_subDictH (knd := tupleKind (mixKind X.prog X.w)) (show X.A.units < cLine by omega) (by simp [pairTrees]) ?_)))
  refine pairTrees_cons_walk (thn (hk.run pins _ σ _ _ I1 (q _ hn)) fun u s1 ⟨x, H1, I1', rx, q1⟩ => thn (hv.run pins s1 σ H1 _ I1' q1) fun w2 s2 ⟨y, H2, I2, ry, b, k, ex, eb, ed, q2⟩ => pairTrees_nil_walk ?_)
  subst ex
  cases (show u = Value.ref b from rx)
  obtain ⟨z, hd, xs, rel, dd⟩ := dt_of I2.hok ed
  have rel' := rel.put k eb ry
  cases rel
  refine ⟨[(k, b, w2)], ⟨rfl, rfl, key_of I2.hok eb, trivial⟩, dd, fun h' tk dd' hs => wpAny_pure ⟨.ref s.heap.objs.size, _, ?_, rfl, q2⟩⟩
  obtain ⟨q, es, ep, hq, h2, h3, h4, _, h5⟩ := dd'
  refine d_write I2 (by rw [ed]; exact True.intro) hs ⟨q, hq⟩ ⟨by show 1 ≤ sizeLine; decide, hd, _, rel'.keeps fun c ys ec => ?_, q, es, ep, hq, h2, h3, h4, h5⟩
  rw [upd_ne (ne_of ec ed (fun z => nomatch z))]
  exact ec
end Tw
namespace Tw
open PySem PySem.Spec PyProof.Rows L2
/-! ### what a dict of places holds -/
def kys (c : Key2) : List Key := [.inl c.1, .inl c.2]
theorem kys_inj {c d : Key2} (h : kys c = kys d) : c = d := by
  unfold kys at h
  injection h with h1 h2
  injection h2 with h2 _
  injection h1 with h1
  injection h2 with h2
  exact Prod.ext h1 h2
structure PlOk (kvs : List (List Key × V)) (ks : List Key2) : Prop where
  len : kvs.length ≤ ks.length
  val : ∀ c, valV kvs (kys c) = if c ∈ ks then some (.int (plc ks c : Nat)) else none
theorem pl_add {kvs : List (List Key × V)} {ks : List Key2} {c : Key2} (h : PlOk kvs ks) (hn : c ∉ ks) : PlOk (putK kvs (kys c) (.int (ks.length : Nat))) (ks ++ [c]) := by
  refine ⟨?_, fun d => ?_⟩
  · have := length_putK kvs (kys c) (.int (ks.length : Nat))
    have := h.len
    rw [List.length_append]
    show _ ≤ ks.length + 1
    omega
  · rw [valV_put]
    by_cases e : d = c
    · subst e
      rw [if_pos rfl, if_pos (by simp), plc_snoc hn]
    · rw [if_neg (fun z => e (kys_inj z)), h.val d]
      by_cases m : d ∈ ks
      · rw [if_pos m, if_pos (List.mem_append_left _ m), plc_app _ m]
      · rw [if_neg m, if_neg (fun z => (List.mem_append.mp z).elim m fun z => e (List.mem_singleton.mp z))]
/-- the dict d holds the places of ks -/
def PlAt (H : Hp) (d : Addr) (ks : List Key2) : Prop := ∃ kvs, H d = some (.dT kvs) ∧ PlOk kvs ks
theorem PlAt.get {H : Hp} {d a : Addr} {ks : List Key2} {c : Key2} (h : PlAt H d ks) (ha : H a = some (.tup [.int c.1, .int c.2])) : DGet H d (.ref a) (if c ∈ ks then some (.int (plc ks c : Nat)) else none) := by
  obtain ⟨kvs, hd, ok⟩ := h
  rw [← ok.val c]
  exact DGet.t hd ha
theorem PlAt.put {H : Hp} {d a : Addr} {ks : List Key2} {c : Key2} (h : PlAt H d ks) (ha : H a = some (.tup [.int c.1, .int c.2])) (hn : c ∉ ks) (hl : ks.length < 1000) : ∃ kvs, DPut H d (.ref a) (.int (ks.length : Nat)) (upd H d (.dT kvs)) ∧ PlAt (upd H d (.dT kvs)) d (ks ++ [c]) := by
  obtain ⟨kvs, hd, ok⟩ := h
  have := ok.len
  exact ⟨_, DPut.t (k := kys c) hd ha (small1000 (by omega)), _, upd_same, pl_add ok hn⟩
end Tw
namespace Tw
open PySem PySem.Spec PyProof.Rows L2
/-! ### len(x) by an own __len__; == of tuples and lists of ints; more of nested equality -/
section
variable {X : Cx} {n : Nat} {C : Addr}
structure Ol (P : Program) (w : World) (K : PySem.W.Frag) (mg : Str → Option Value) (base : Heap) (k : Nat) (C : Addr) (ps : List Str) (sp : Sp) : Prop where
  ex : ∃ f fd, PySem.W.findIn K (.ref C) "__len__" = some (some (.ref f)) ∧ PySem.W.isFn K (.ref f) = true ∧ Binds K fd ps [] ∧ FnOk P w K mg base CX0 k f fd ps sp
end
theorem n_eqD {P : Program} {w : World} {K : PySem.W.Frag} {mg : Str → Option Value} {base : Heap} {j : Nat} {X : Cx} {NS WS : List (Str × Nat)} {G : List Str} (h : Nm P w K mg base j X NS WS G) : OpR X (compareOp .Eq) (rEqD K) := by
  have hu := h.room.units
  have q := h.eK
  subst q
  exact op_eqD hu
/-- lists and tuples item by item -/
inductive AllEqd (K : PySem.W.Frag) (H : Hp) (n : Nat) : List V → List V → Prop
  | nil : AllEqd K H n [] []
  | cons {x y : V} {xs ys : List V} (h : Eqd K H n x y) (t : AllEqd K H n xs ys) : AllEqd K H n (x :: xs) (y :: ys)
end Tw
namespace Tw
open PySem PySem.Spec PyProof.Rows L2
/-! ### counts, their next ones, their totals -/
def firstC (M : Mach) (st : Int) : List Int := (List.range M.length).map fun (i : Nat) => if (i : Int) = st then 1 else 0
def addA (l : List Int) (g c : Int) : List Int := l.set g.toNat (l.getD g.toNat 0 + c)
def addR (l gs : List Int) (c : Int) : List Int := gs.foldl (fun l g => addA l g c) l
def sumC (M : Mach) (cs : List Int) : Nat → List Int
  | 0 => List.replicate M.length 0
  | k + 1 => addR (sumC M cs k) (M.getD k (0, [])).2 (cs.getD k 0)
def nextC (p : Int) (M : Mach) (cs : List Int) : List Int := (sumC M cs M.length).map (· % p)
def prodC (M : Mach) (cs : List Int) : List Int := (List.range M.length).map fun k => cs.getD k 0 * (M.getD k (0, [])).1
def totC (p : Int) (M : Mach) (cs : List Int) : Int := (prodC M cs).sum % p
structure CsOk (p : Int) (M : Mach) (cs : List Int) : Prop where
  len : cs.length = M.length
  val : ∀ d ∈ cs, 0 ≤ d ∧ d < p
theorem addA_len (l : List Int) (g c : Int) : (addA l g c).length = l.length := by unfold addA; rw [List.length_set]
theorem addR_len (gs : List Int) (c : Int) : ∀ l : List Int, (addR l gs c).length = l.length := by
  induction gs with
  | nil => intro l; rfl
  | cons g r ih => intro l; show (addR (addA l g c) r c).length = _; rw [ih, addA_len]
theorem sumC_len (M : Mach) (cs : List Int) : ∀ k, (sumC M cs k).length = M.length
  | 0 => by simp [sumC]
  | k + 1 => by rw [sumC, addR_len, sumC_len M cs k]
theorem nextC_ok {p : Int} (hP : IsP p) (M : Mach) (cs : List Int) : CsOk p M (nextC p M cs) := by
  have p2 := hP.two
  refine ⟨by unfold nextC; rw [List.length_map, sumC_len], fun d hd => ?_⟩
  obtain ⟨x, _, rfl⟩ := List.mem_map.mp hd
  exact md_in hP x
theorem firstC_ok {p : Int} (hP : IsP p) (M : Mach) (st : Int) : CsOk p M (firstC M st) := by
  have p2 := hP.two
  refine ⟨by unfold firstC; rw [List.length_map, List.length_range], fun d hd => ?_⟩
  obtain ⟨i, _, rfl⟩ := List.mem_map.mp hd
  show 0 ≤ (if (i : Int) = st then (1 : Int) else 0) ∧ (if (i : Int) = st then (1 : Int) else 0) < p
  split <;> omega
/-! the law's own: a rest behind each step -/
theorem md_add (h : IsP p) (a c : Int) : (a % p + c) % p = (a + c) % p := by rcases h with rfl | rfl | rfl | rfl <;> omega
theorem getD_md {p : Int} (l : List Int) (i : Nat) : (l.map (· % p)).getD i 0 = (l.getD i 0) % p := by
  rw [List.getD_eq_getElem?_getD, List.getD_eq_getElem?_getD, List.getElem?_map]
  cases l[i]? with
  | none => simp
  | some x => rfl
/-! ### walks over pairs of a list or a tuple and a list -/
/-- pairs, one by one; S: what holds of the heap meanwhile -/
structure PairsJ (J : It) (S : Hp → Prop) (xs ys : List V) : Prop where
  go : ∀ H (j : Nat) x y, S H → xs[j]? = some x → ys[j]? = some y → J.go j H
  stop : ∀ H, S H → J.stop xs.length H
  yl : ∀ H (j : Nat) v H', S H → J.yld j H v H' → ∃ T x y, v = .ref T ∧ H T = none ∧ H' = upd H T (.tup [x, y]) ∧ xs[j]? = some x ∧ ys[j]? = some y
/-- items, one by one -/
structure SeqJ (J : It) (S : Hp → Prop) (xs : List V) : Prop where
  go : ∀ H (j : Nat) x, S H → xs[j]? = some x → J.go j H
  stop : ∀ H, S H → J.stop xs.length H
  yl : ∀ H (j : Nat) v H', S H → J.yld j H v H' → H' = H ∧ xs[j]? = some v
theorem sj_L {K : PySem.W.Frag} {a : Addr} {xs : List V} {S : Hp → Prop} (h : ∀ H, S H → SqL K H a xs) : SeqJ (Itl K a) S xs := by
  refine ⟨fun H j x s1 h1 => ⟨xs, x, h H s1, h1⟩, fun H s1 => ⟨xs, h H s1, Nat.le_refl _⟩, fun H j v H' s1 hy => ⟨hy.1, hy.2 xs (h H s1)⟩⟩
theorem sj_T {K : PySem.W.Frag} {a : Addr} {xs : List V} {S : Hp → Prop} (h : ∀ H, S H → SqT K H a xs) : SeqJ (Itt K a) S xs := by
  refine ⟨fun H j x s1 h1 => ⟨xs, x, h H s1, h1⟩, fun H s1 => ⟨xs, h H s1, Nat.le_refl _⟩, fun H j v H' s1 hy => ⟨hy.1, hy.2 xs (h H s1)⟩⟩
theorem gm_name {i : Nat} : ∀ v σ H (A B : L2.St → Hp → Prop), (∀ σ H, A σ H → B σ H) → gName i v σ H A → gName i v σ H B := fun v σ H A B hh q => hh _ _ q
/-- f(k = e, ..), f a def of the text, nothing by position -/
structure DfK (P : Program) (w : World) (K : PySem.W.Frag) (mg : Str → Option Value) (base : Heap) (k : Nat) (x : Str) (ps ks : List Str) (gV : List V → List V → List V) (sp : Sp) : Prop where
  ex : ∃ f fd, ∃ g : List Value → List Value → List Value, mg x = some (.ref f) ∧ PySem.W.keepIn K (.ref f) = true ∧ KBn K fd ps 0 ks g gV ∧ FnOk P w K mg base CX0 k f fd ps sp
def tDK (m : Nat) (gV : List V → List V → List V) (sp : Sp) (tk : TA) : TE := fun σ H Q => tk σ H fun zs H2 => zs.length = m ∧ sp (gV [] zs) H2 Q E0
theorem n_dK {P : Program} {w : World} {K : PySem.W.Frag} {mg : Str → Option Value} {base : Heap} {j k : Nat} {X : Cx} {NS WS : List (Str × Nat)} {G : List Str} {x : Str} {p pos : Pos} {kws : List Keyword} {tk : TA} {ps ks : List Str} {sp : Sp} {gV : List V → List V → List V}
    (h : Nm P w K mg base j X NS WS G) (D : DfK P w K mg base k x ps ks gV sp) (hk : k ≤ j) (hg : x ∈ G) (hkw : PK X kws tk)
    (hall : (backToKw pos (keywordEach kws X.env)).all (·.1.isSome) = true := by rfl) (hks : (backToKw pos (keywordEach kws X.env)).filterMap (·.1) = ks := by rfl)
    (hpl : ((backTo pos (starEach [] X.env)).any (·.1) || (backToKw pos (keywordEach kws X.env)).any (·.1.isNone)) = false := by rfl) :
    PE X (.Call (.Name x p) [] kws pos) (tDK ks.length gV sp tk) := by
  obtain ⟨h1, h2, h3, h4, h5, hr, _, _, _, _, hgl⟩ := h
  subst h1 h2 h3 h4 h5
  obtain ⟨f, fd, g, hm, hkp, hb, F⟩ := D.ex
  refine ⟨fun pins s σ H Q I h => ?_⟩
  refine wpAny_Call_Name_kw (ld_glob I (hgl x hg).1 hm ?_ (hgl x hg).2.1)
  refine PySem.W.callWith_KW0 (h₀ := X.base) I.ok.mod.kin hkp hall (thn (hkw.run pos pins s σ H _ I h) fun ws s2 ⟨zs, H2, I2, rz, l2, q2⟩ => ⟨I2.kIn, ?_⟩) hpl
  rw [hks]
  exact run_fnN (us := []) (vs := []) F (hr.mono hk) hb pass0 I2 .nil rz rfl l2 q2
def g1 {α : Type} (_ zs : List α) : List α := zs
end Tw
namespace Tw
open PySem PySem.Spec PyProof.Rows L2
/-! ### xs[i] op= e; targets of any nesting; small things -/
def Gm (g : TG) : Prop := ∀ v σ H (A B : L2.St → Hp → Prop), (∀ σ H, A σ H → B σ H) → g v σ H A → g v σ H B
theorem gm_nm {i : Nat} : Gm (gName i) := fun v σ H A B hh q => hh _ _ q
end Tw
namespace Tw
open PySem PySem.Spec PyProof.Rows L2
/-! ### states in the order in which they are reached -/
def addI (ks : List Int) (g : Int) : List Int := if g ∈ ks then ks else ks ++ [g]
def rowI (ks gs : List Int) : List Int := gs.foldl addI ks
def ordJ (M : Mach) (s0 : Int) : Nat → List Int
  | 0 => [s0]
  | j + 1 => rowI (ordJ M s0 j) (M.getD ((ordJ M s0 j).getD j 0).toNat (0, [])).2
section
variable {M : Mach} {p : Int}
structure DoneI (M : Mach) (s0 : Int) (J : Nat) : Prop where
  go : ∀ i, i < J → i < (ordJ M s0 i).length
  stop : (ordJ M s0 J).length = J
theorem DoneI.one {s0 : Int} {J L : Nat} (a : DoneI M s0 J) (b : DoneI M s0 L) : J = L := by
  rcases Nat.lt_trichotomy J L with h | h | h
  · have := b.go J h
    have := a.stop
    omega
  · exact h
  · have := a.go L h
    have := b.stop
    omega
end
/-- the dict of what is found -/
structure FdOk (kvs : List (Key × V)) (ks : List Int) : Prop where
  len : kvs.length ≤ ks.length
  val : ∀ c : Int, valV kvs (.inl c : Key) = if c ∈ ks then some (.bl true) else none
end Tw
namespace Tw
open PySem PySem.Spec PyProof.Rows L2 TL
/-! ### texts of turners, as lists of signs -/
/-! splitting -/
/-! numbers of at most three digits -/
end Tw
namespace Tw
open PySem PySem.Spec PyProof.Rows L2 TL
/-! ### texts walked; a class in a local name; classmethods; lists unpacked -/
section
variable {P : Program} {w : World} {K : PySem.W.Frag} {mg : Str → Option Value} {base : Heap} {j k n : Nat} {X : Cx} {NS WS : List (Str × Nat)} {G : List Str} {x : Str} {i : Nat} {p apos pos : Pos} {e o : Expr} {es : List Expr} {kws : List Keyword} {t tk : TA} {ps ks : List Str} {sp : Sp} {te ta : TE} {C : Addr} {m : Str}
/-- a classmethod of C -/
structure CMf (P : Program) (w : World) (K : PySem.W.Frag) (mg : Str → Option Value) (base : Heap) (k : Nat) (C : Addr) (m : Str) (sp : Sp) : Prop where
  ex : ∃ mc q g, ClX.CRead K C mc ∧ ClX.CMet K C mc m q g ∧ FnR P w K mg base CX0 k g sp
end
end Tw
namespace Tw
open PySem PySem.Spec PyProof.Rows L2 TL
end Tw
namespace Tw
open PySem PySem.Spec PyProof.Rows L2 TL
/-! ### counts step by step -/
def itC (p : Int) (M : Mach) (st : Int) : Nat → List Int
  | 0 => firstC M st
  | n + 1 => nextC p M (itC p M st n)
def totN (p : Int) (M : Mach) (st : Int) (n : Nat) : Int := totC p M (itC p M st n)
theorem itC_ok {p : Int} (hP : IsP p) (M : Mach) (st : Int) : ∀ n, CsOk p M (itC p M st n)
  | 0 => firstC_ok hP M st
  | n + 1 => nextC_ok hP M _
end Tw
namespace Tw
open PySem PySem.Spec PyProof.Rows L2 TL
/-! ### comprehensions that hold a comprehension -/
section
variable {P : Program} {w : World} {K : PySem.W.Frag} {mg : Str → Option Value} {base : Heap} {j k : Nat} {X : Cx} {NS WS NS' WS' : List (Str × Nat)} {G G' : List Str} {N : List Str} {scD scope : Scope} {pos spos : Pos}
end
end Tw
namespace Tw
open PySem PySem.Spec PyProof.Rows L2 TL
/-! ### C.m(k = v), a classmethod -/
section
variable {P : Program} {w : World} {K : PySem.W.Frag} {mg : Str → Option Value} {base : Heap} {j k : Nat} {X : Cx} {NS WS : List (Str × Nat)} {G : List Str} {apos pos : Pos} {o : Expr} {kws : List Keyword} {tk : TA} {ks : List Str} {sp : Sp} {ta : TE} {C : Addr} {m : Str}
structure CMfK (P : Program) (w : World) (K : PySem.W.Frag) (mg : Str → Option Value) (base : Heap) (k : Nat) (C : Addr) (m : Str) (ks : List Str) (gV : List V → List V → List V) (sp : Sp) : Prop where
  ex : ∃ mc q g fd ps, ∃ gg : List Value → List Value → List Value, ClX.CRead K C mc ∧ ClX.CMet K C mc m q g ∧ KBn K fd ps 1 ks gg gV ∧ FnOk P w K mg base CX0 k g fd ps sp
end
/-! machines as data for == -/
end Tw
namespace Tw
open PySem PySem.Spec PyProof.Rows L2
/-! ### own == with any value on the right; what is left of a list or tuple behind a place -/
section
variable {X : Cx} {n : Nat} {C : Addr}
end
theorem cut_drop (xs : List V) (n : Nat) : cutV xs (some (n : Int)) none = xs.drop n := by
  unfold cutV
  rw [HT.sIx_nat, show HT.sIx xs.length xs.length none = xs.length from rfl]
  by_cases c : n ≤ xs.length
  · rw [Nat.min_eq_left c, List.take_of_length_le (by rw [List.length_drop]; exact Nat.le_refl _)]
  · rw [Nat.min_eq_right (by omega), List.drop_eq_nil_of_le (Nat.le_refl _), List.take_nil, List.drop_eq_nil_of_le (by omega)]
theorem sl_anyD {K : PySem.W.Frag} {H : Hp} {a : Addr} {xs : List V} {n : Nat} {Q : V → Hp → Prop} (h : H a = some (.tup xs)) (k : ∀ r H', Same H H' → H' r = some (.tup (xs.drop n)) → Q (.ref r) H') : rSlA K (.ref a) (some (n : Int)) none H Q := by
  refine ⟨a, xs, rfl, SqT.of h, fun w => k a H (fun _ _ e => e) ?_, fun _ p hp => ?_⟩
  · have e := w.1
    rw [HT.sIx_nat] at e
    rw [h]
    rcases Nat.eq_zero_or_pos n with c | c
    · rw [c, List.drop_zero]
    · have : xs.length = 0 := by omega
      rw [List.length_eq_zero_iff.mp this, List.drop_nil]
  · rw [cut_drop]
    exact k p _ (same_new hp) upd_same
theorem sl_list_anyD {K : PySem.W.Frag} {H : Hp} {a : Addr} {xs : List V} {n : Nat} {Q : V → Hp → Prop} (h : H a = some (.lst xs)) (k : ∀ r H', Same H H' → H' r = some (.lst (xs.drop n)) → Q (.ref r) H') : rSlL K (.ref a) (some (n : Int)) none H Q := by
  refine ⟨a, xs, rfl, SqL.of h, fun p hp => ?_⟩
  rw [cut_drop]
  exact k p _ (same_new hp) upd_same
theorem cat_lst {H : Hp} {a b : Addr} {xs ys : List V} {Q : V → Hp → Prop} (ha : H a = some (.lst xs)) (hb : H b = some (.lst ys)) (hz : xs.length + ys.length ≤ 1000) (k : ∀ r H', Same H H' → H r = none → H' r = some (.lst (xs ++ ys)) → Q (.ref r) H') : rCat (.ref a) (.ref b) H Q :=
  ⟨a, b, xs, ys, rfl, rfl, ha, hb, Nat.le_of_lt (small1000 hz), fun p hp => k p _ (same_new hp) hp upd_same⟩
/-! ### a machine with one row changed -/
theorem StsAt.take {H : Hp} {xs : List V} {M : List (Int × List Int)} (h : StsAt H xs M) (n : Nat) : StsAt H (xs.take n) (M.take n) := by
  refine ⟨by rw [List.length_take, List.length_take, h.1], fun i v s h1 h2 => ?_⟩
  rw [List.getElem?_take] at h1 h2
  by_cases c : i < n
  · rw [if_pos c] at h1 h2
    exact h.2 i v s h1 h2
  · rw [if_neg c] at h1
    cases h1
theorem StsAt.drop {H : Hp} {xs : List V} {M : List (Int × List Int)} (h : StsAt H xs M) (n : Nat) : StsAt H (xs.drop n) (M.drop n) := by
  refine ⟨by rw [List.length_drop, List.length_drop, h.1], fun i v s h1 h2 => ?_⟩
  rw [List.getElem?_drop] at h1 h2
  exact h.2 _ v s h1 h2
theorem StsAt.app {H : Hp} {xs ys : List V} {M N : List (Int × List Int)} (h : StsAt H xs M) (g : StsAt H ys N) : StsAt H (xs ++ ys) (M ++ N) := by
  refine ⟨by rw [List.length_append, List.length_append, h.1, g.1], fun i v s h1 h2 => ?_⟩
  by_cases c : i < xs.length
  · rw [List.getElem?_append_left c] at h1
    rw [List.getElem?_append_left (by rw [← h.1]; exact c)] at h2
    exact h.2 i v s h1 h2
  · rw [List.getElem?_append_right (by omega)] at h1
    rw [List.getElem?_append_right (by rw [← h.1]; omega), ← h.1] at h2
    exact g.2 _ v s h1 h2
theorem StsAt.one {H : Hp} {x : V} {s : Int × List Int} (h : StAt H x s) : StsAt H [x] [s] := by
  refine ⟨rfl, fun i v z h1 h2 => ?_⟩
  match i, h1, h2 with
  | 0, h1, h2 =>
    obtain rfl := Option.some.inj h1
    obtain rfl := Option.some.inj h2
    exact h
  | i + 1, h1, h2 => exact absurd h1 (by simp)
theorem OkM.swap {p n : Int} {M : List (Int × List Int)} {s : Int × List Int} (h : OkM p n M) (k : Nat) (h1 : 0 ≤ s.1 ∧ s.1 < p) (h2 : (s.2.length : Int) = p) (h3 : ∀ g ∈ s.2, 0 ≤ g ∧ g < n) : OkM p n (M.take k ++ [s] ++ M.drop (k + 1)) := by
  have key : ∀ z ∈ M.take k ++ [s] ++ M.drop (k + 1), z ∈ M ∨ z = s := fun z hz => by
    rcases List.mem_append.mp hz with hz | hz
    · rcases List.mem_append.mp hz with hz | hz
      · exact .inl (List.mem_of_mem_take hz)
      · exact .inr (List.mem_singleton.mp hz)
    · exact .inl (List.mem_of_mem_drop hz)
  refine ⟨fun z hz => ?_, fun z hz => ?_, fun z hz => ?_⟩ <;> rcases key z hz with hz | rfl
  · exact h.turn z hz
  · exact h1
  · exact h.many z hz
  · exact h2
  · exact h.goal z hz
  · exact h3
end Tw
namespace Tw
open PySem PySem.Spec PyProof.Rows L2
/-! ### enumerate(tuple) -/
open AutoSeq1 (wpAny_loadPart') in
theorem st_get {H : Hp} {xs : List V} {M : List (Int × List Int)} {s : Int} (h : StsAt H xs M) (s0 : 0 ≤ s) (s1 : s < (M.length : Int)) : ∃ b g, atI xs s = some (.ref b) ∧ H b = some (.tup [.int (M.getD s.toNat (0, [])).1, .ref g]) ∧ H g = some (.tup ((M.getD s.toNat (0, [])).2.map V.int)) ∧ M.getD s.toNat (0, []) ∈ M := by
  have hm : s.toNat < M.length := by omega
  have hx : s.toNat < xs.length := by rw [h.1]; exact hm
  have e1 : xs[s.toNat]? = some xs[s.toNat] := List.getElem?_eq_getElem hx
  have e2 : M[s.toNat]? = some M[s.toNat] := List.getElem?_eq_getElem hm
  obtain ⟨a, g, ev, h1, h2⟩ := h.2 _ _ _ e1 e2
  have eM : M.getD s.toNat (0, []) = M[s.toNat] := by rw [List.getD_eq_getElem?_getD, e2]; rfl
  refine ⟨a, g, at_of (j := s.toNat) (by omega) (by rw [e1, ev]), ?_, ?_, ?_⟩
  · rw [eM]; exact h1
  · rw [eM]; exact h2
  · rw [eM]; exact List.getElem_mem hm
theorem sl_anyZ {K : PySem.W.Frag} {H : Hp} {a : Addr} {xs : List V} {n : Nat} {z : Int} {Q : V → Hp → Prop} (hz : z = (n : Int)) (h : H a = some (.tup xs)) (k : ∀ r H', Same H H' → H' r = some (.tup (xs.take n)) → Q (.ref r) H') : rSlA K (.ref a) none (some z) H Q := by
  subst hz; exact sl_any h k
theorem sl_anyDZ {K : PySem.W.Frag} {H : Hp} {a : Addr} {xs : List V} {n : Nat} {z : Int} {Q : V → Hp → Prop} (hz : z = (n : Int)) (h : H a = some (.tup xs)) (k : ∀ r H', Same H H' → H' r = some (.tup (xs.drop n)) → Q (.ref r) H') : rSlA K (.ref a) (some z) none H Q := by
  subst hz; exact sl_anyD h k
theorem sl_listZ {K : PySem.W.Frag} {H : Hp} {a : Addr} {xs : List V} {n : Nat} {z : Int} {Q : V → Hp → Prop} (hz : z = (n : Int)) (h : H a = some (.lst xs)) (k : ∀ r H', Same H H' → H' r = some (.lst (xs.take n)) → Q (.ref r) H') : rSlL K (.ref a) none (some z) H Q := by
  subst hz; exact sl_list_any h k
theorem sl_listDZ {K : PySem.W.Frag} {H : Hp} {a : Addr} {xs : List V} {n : Nat} {z : Int} {Q : V → Hp → Prop} (hz : z = (n : Int)) (h : H a = some (.lst xs)) (k : ∀ r H', Same H H' → H' r = some (.lst (xs.drop n)) → Q (.ref r) H') : rSlL K (.ref a) (some z) none H Q := by
  subst hz; exact sl_list_anyD h k
end Tw
namespace Tw
open PySem PySem.Spec PyProof.Rows L2
/-! ### repr(x) by an own __repr__; xs.reverse(), xs.clear() -/
section
variable {X : Cx} {n : Nat} {C : Addr}
structure Or' (P : Program) (w : World) (K : PySem.W.Frag) (mg : Str → Option Value) (base : Heap) (k : Nat) (C : Addr) (ps : List Str) (sp : Sp) : Prop where
  ex : ∃ f fd, PySem.W.findIn K (.ref C) "__repr__" = some (some (.ref f)) ∧ PySem.W.isFn K (.ref f) = true ∧ Binds K fd ps [] ∧ FnOk P w K mg base CX0 k f fd ps sp
end
end Tw
namespace Tw
open PySem PySem.Spec PyProof.Rows L2
/-! ### super().__init__(x) in an own exception's __init__ -/
/-- a method of the class at C whose body reads __class__, as it stands behind the top -/
structure FunC (P : Program) (K : PySem.W.Frag) (mg : Str → Option Value) (x qual : Str) (st : Stmt) (f C cc cda : Addr) (fd : FuncData) (i : String) : Prop where
  ex : ∃ (oc : Value) (od : Option Addr) (kV doc pm : Value) (an : Option Addr) (ct : Value) (osl : Array (Option Value)),
    fd = PySem.W.fnX x qual (defArgs st) (defBody st) (defScope st) [("__class__", cc)] .none kV doc pm an (.ref cda) ct ∧ K.lookup f = some ⟨oc, od, .func fd, osl⟩
  cd : PySem.W.codeIn K (.ref cda) qual = true
  cell : ∃ (cl : Value) (cld : Option Addr) (csl : Array (Option Value)), K.lookup cc = some ⟨cl, cld, .cell (some (.ref C)), csl⟩
  co : ∃ (ccl : Value) (cdd : Option Addr) (vs : Array Value) (ccs : Array (Option Value)) (file : Str) (tf : Tok), K.lookup cda = some ⟨ccl, cdd, .fields vs, ccs⟩ ∧ vs[2]? = some (.str file tf) ∧ ((P.main.file : Str) == file) = true
  sup : PySem.W.ks_superIn K C C "__init__" = some (some (.builtin i))
  opq : PySem.W.nsIn K cStatics "thirdparty.any" = some none
  mgs : mg "super" = none
  top : (P.main.scope.names.lookup ("super" : Str)).isSome = false
  par : ∃ ar, ((defArgs st).posonlyargs ++ (defArgs st).args).head? = some ar ∧ ar.arg = ("self" : Str)
  scS : (defScope st).names.lookup ("super" : Str) = some .globalImplicit
  scC : (defScope st).names.lookup ("__class__" : Str) = some .free
  scL : (defScope st).names.lookup ("self" : Str) = some .local
abbrev nfOf (x qual : Str) (st : Stmt) (cc cda : Addr) : NdefX.NF := ⟨x, qual, defArgs st, defBody st, defScope st, [("__class__", cc)], cda⟩
section
variable {CX : CXT} {P : Program} {w : World} {K : PySem.W.Frag} {mg : Str → Option Value} {base : Heap} {N : List Str} {x qual : Str} {st : Stmt} {f C cc cda a : Addr} {fd : FuncData} {A : Around} {outer : List Env} {s0 s : Shared} {H0 H : Hp} {E : XK} {σ : L2.St} {e : Expr} {es : List Expr} {ta : TA} {p0 p1 p2 p3 p4 : Pos} {R : Flow → Shared → Prop}
theorem clsIn_oex (T : OexC K C) : ∃ cd bm, PySem.W.clsIn K C = some cd ∧ cd.mro = .ref C :: bm ∧ PySem.HandSPX.refsVE bm = true := by
  obtain ⟨nm, q, N, bs, bm, sn, sub, ab, col, dd, k0, k1, k2, k3, k5, hC, hbm⟩ := T.cls
  refine ⟨{ name := nm, bases := bs, mro := .ref C :: bm, ns := N, qualname := q, hasDict := true, slotNames := sn, subclasses := sub, abstract := ab, collection := col, hasDel := false }, bm, ?_, rfl, hbm⟩
  unfold PySem.W.clsIn; rw [hC] <;> rfl
theorem mroIn_oex (T : OexC K C) {b : Value} (h : b = .ref C ∨ ∃ X : String, b = .type X ∧ PySem.HandSPX.veTail.contains (.type X) = true) : PySem.W.mroIn K C b = some true := by
  obtain ⟨cd, bm, h1, h2, h3⟩ := clsIn_oex T
  unfold PySem.W.mroIn
  rw [h1, Option.bind_some, h2, if_neg (show ¬ (List.isEmpty (Value.ref C :: bm) = true) from Bool.false_ne_true)]
  rcases h with rfl | ⟨X, rfl, h⟩
  · simp
  · rw [List.contains_cons, PySem.HandSPX.refsVE_contains X bm h3, h, Bool.or_true]
theorem callWith_mw {M : Model} {A : Around} {E : Value → Shared → Prop} {s : Shared} {pos : Pos} {env : Env} {e : Expr} {rest : List Expr} {u x : Addr} {i : String} {Q : Value → Shared → Prop}
    (h : wpAny M A (spliced (backTo pos (starEach (e :: rest) env))) (fun vs s₁ => PySem.W.KxsAt i u x s₁.heap ∧ wpAny M A (call (.ref u) vs) Q E s₁) E s)
    (he : starEach (e :: rest) env = (false, eval e env) :: starEach rest env) (hplain : (backTo pos (starEach rest env)).any (·.1) = false) :
    wpAny M A (callWith pos (.ref u) [] (backTo pos (starEach (e :: rest) env)) []) Q E s := by
  rw [he] at h ⊢
  refine PySem.W.kxs_callWith (i := i) (x := x) (by show (false || (backTo pos (starEach rest env)).any (·.1)) = false; rw [hplain]; rfl) ?_
  exact PySem.Calls.evalArgs_plain h
theorem sup_stmt (FC : FunC P K mg x qual st f C cc cda fd "ValueError.__init__") (T : OexC K C) (hk : (defScope st).kind = .function) (hN : N[0]? = some ("self" : Str))
    (I : Inv (NdefX.ncx CX P w K mg base N (nfOf x qual st cc cda) f A outer s0 H0 E) [] σ H s) (hσ : σ[0]? = some (some (.ref a))) (hx : H a = some (exo a C none)) (ha : PA (NdefX.ncx CX P w K mg base N (nfOf x qual st cc cda) f A outer s0 H0 E) (e :: es) ta)
    (h : ta σ H fun vs H1 => vs.length ≤ 1000 ∧ H1 a = some (exo a C none) ∧ ∀ s', Inv (NdefX.ncx CX P w K mg base N (nfOf x qual st cc cda) f A outer s0 H0 E) [] σ H1 s' → R .next s')
    (hi : interactive (NdefX.ncx CX P w K mg base N (nfOf x qual st cc cda) f A outer s0 H0 E).env = false := by rfl)
    (hs : swapsWith (.Call (.Attribute (.Call (.Name "super" p0) [] [] p1) "__init__" p2) (e :: es) [] p3) none p4.line (NdefX.ncx CX P w K mg base N (nfOf x qual st cc cda) f A outer s0 H0 E).env = pure false := by rfl)
    {pl : Sem Bool} (hc : eval (.Call (.Attribute (.Call (.Name "super" p0) [] [] p1) "__init__" p2) (e :: es) [] p3) (NdefX.ncx CX P w K mg base N (nfOf x qual st cc cda) f A outer s0 H0 E).env = (do
      let ov ← attributeBase (.Call (.Name "super" p0) [] [] p1) "__init__" (NdefX.ncx CX P w K mg base N (nfOf x qual st cc cda) f A outer s0 H0 E).env (eval (.Call (.Name "super" p0) [] [] p1) (NdefX.ncx CX P w K mg base N (nfOf x qual st cc cda) f A outer s0 H0 E).env)
      standAt p2.atName
      let (fz, first) ← holding [ov] (getMethod ov "__init__" pl)
      callWith p3 fz first (backTo p3 (starEach (e :: es) (NdefX.ncx CX P w K mg base N (nfOf x qual st cc cda) f A outer s0 H0 E).env)) []) := by rfl)
    (he : starEach (e :: es) (NdefX.ncx CX P w K mg base N (nfOf x qual st cc cda) f A outer s0 H0 E).env = (false, eval e (NdefX.ncx CX P w K mg base N (nfOf x qual st cc cda) f A outer s0 H0 E).env) :: starEach es (NdefX.ncx CX P w K mg base N (nfOf x qual st cc cda) f A outer s0 H0 E).env := by rfl)
    (hpl : (backTo p3 (starEach es (NdefX.ncx CX P w K mg base N (nfOf x qual st cc cda) f A outer s0 H0 E).env)).any (·.1) = false := by rfl) :
    _root_.PySem.wpAt (model P w) (NdefX.ncx CX P w K mg base N (nfOf x qual st cc cda) f A outer s0 H0 E).A (.func (defBody st) (NdefX.ncx CX P w K mg base N (nfOf x qual st cc cda) f A outer s0 H0 E).env)
      (exec (.Expr (.Call (.Attribute (.Call (.Name "super" p0) [] [] p1) "__init__" p2) (e :: es) [] p3) p4) (NdefX.ncx CX P w K mg base N (nfOf x qual st cc cda) f A outer s0 H0 E).env) R (NdefX.ncx CX P w K mg base N (nfOf x qual st cc cda) f A outer s0 H0 E).xe s := by
  obtain ⟨oc, od, kV, doc, pm, an, ct, osl, rfl, lk⟩ := FC.ex
  obtain ⟨cl, cld, csl, hcell⟩ := FC.cell
  obtain ⟨ccl, cdd, vs, ccs, file, tf, hco, hvs, hfile⟩ := FC.co
  obtain ⟨ar, har, ear⟩ := FC.par
  obtain ⟨nm, q, N', bs, bm, sn, sub, ab, col, dd, k0, k1, k2, k3, k5, hC, hbm⟩ := id T.cls
  obtain ⟨cd, bm', hcl, hmro, hbm'⟩ := clsIn_oex T
  have KX : K.In s.heap := I.kIn
  obtain ⟨t1, ho⟩ := exo_at I.hok hx
  obtain ⟨m, hns, hloc⟩ := I.loc
  obtain ⟨u, ru, hlook⟩ := hloc 0 "self" (.ref a) hN hσ (.inl FC.scL)
  obtain rfl : u = Value.ref a := ru
  have hm : m "self" = some (.ref a) := by
    rcases hlook with ⟨_, z⟩ | ⟨z, _⟩
    · exact z
    · rcases z with z | z <;> exact absurd (FC.scL.symm.trans z) (by simp)
  obtain ⟨mb, hb1, hb2⟩ := I.ok.mod.blt
  refine ks_wpAt_Expr_any (ks_wpAt_MethodCall (pl := pl) ?_ hc) hi hs
  refine ks_wpAt_super_base FC.scS FC.scC (by decide) rfl (KX _ _ lk) rfl har rfl (KX _ _ hco) rfl hvs hfile FC.top ?_
  refine PySem.W.ks_loadName_global hk FC.scS (PySem.Calls.loadGlobal_builtin (env := (NdefX.ncx CX P w K mg base N (nfOf x qual st cc cda) f A outer s0 H0 E).env) (I.ok.mod.glob.keeps I.bk) FC.mgs (hb1.keeps I.bk) ((hb2 _ (by decide)).trans (by decide +kernel : bootBuiltins "super" = some (.type "super"))) ⟨rfl, ?_⟩)
  refine wpAny_loadName_free hk FC.scC (c := cc) rfl ⟨_, KX _ _ hcell, rfl⟩ ?_
  refine wpAny_loadName_local hk (by rw [ear]; exact FC.scL) hns (by rw [ear]; exact hm) ?_
  obtain ⟨hp, g, d, t, os⟩ := s
  refine ks_wpAny_isType_cls (KX _ _ hC) rfl ⟨rfl, ?_⟩
  refine ks_wpAny_call_super (KX _ _ hC) rfl ho rfl (fun c z => nomatch z) (PySem.W.looks_mroIn KX (mroIn_oex T (.inl rfl))) (fun h' so k => ?_)
  have I1 : Inv (NdefX.ncx CX P w K mg base N (nfOf x qual st cc cda) f A outer s0 H0 E) [] σ H ⟨h', g, d, t, os⟩ := I.kept (t' := t) k
  have KX1 : K.In h' := I1.kIn
  have I' : PySem.W.InstAt h' a { cls := .ref C, dict := none, data := .fields #[.ref t1, .none, .none, .none, .bool false, .none] } C none := ⟨k _ _ ho, rfl, rfl, trivial⟩
  have hsup : PySem.W.alongIn K "__init__" ((cd.mro.dropWhile (· != .ref C)).drop 1) = some (some (.builtin "ValueError.__init__")) := by
    have z := FC.sup
    unfold PySem.W.ks_superIn at z
    rw [hcl] at z
    exact z
  refine PySem.W.kxs_getMethod PySem.W.kxs_ValueError so (PySem.W.looks_opaque KX1 FC.opq) (l₀ := cd.mro) (fun A Q E s k q => wpAny_bind ((PySem.W.looks_clsIn KX1 hcl) A _ E s k (wpAny_pure q))) rfl KX1 hsup
    (I'.type.andThen (PySem.W.looks_subIn KX1 (show PySem.W.subIn K (.ref C) (.type "ValueError") = some true from mroIn_oex T (.inr ⟨_, rfl, by decide +kernel⟩)))) (PySem.W.ks_ne KX1 I' hcl) (by decide) ?_
  have I2 : Inv (NdefX.ncx CX P w K mg base N (nfOf x qual st cc cda) f A outer s0 H0 E) [(h'.objs.size, PySem.W.kxs_mw "ValueError.__init__" a)] σ H ⟨h'.push (PySem.W.kxs_mw "ValueError.__init__" a), g, d, t + 1, os⟩ :=
    ClX.pin_new I1 (fun _ _ z => Heap.get?_push_of_some _ z) (Nat.le_refl _) (Heap.get?_push_size h' rfl) (fun v z => nomatch z)
  show wpAny _ _ (callWith p3 (.ref h'.objs.size) [] (backTo p3 (starEach (e :: es) (NdefX.ncx CX P w K mg base N (nfOf x qual st cc cda) f A outer s0 H0 E).env)) []) _ _ _
  refine callWith_mw (i := "ValueError.__init__") (x := a) (thn (ha.run p3 _ _ σ H _ I2 h) fun us s1 ⟨vs', H1, I3, r1, hz, hx1, q⟩ => ⟨ClX.pin_at I3, ?_⟩) he hpl
  obtain ⟨t3, ho3⟩ := exo_at I3.hok hx1
  have hu := ClX.pin_at I3
  have hlen : us.length ≤ sizeLine := by
    rw [← Paired.length r1, sizeLine_eq]
    omega
  have KX3 : K.In s1.heap := I3.kIn
  obtain ⟨hp1, g1, d1, tk1, os1⟩ := s1
  refine wpAny_call (codeAny_of_tree ?_)
  show wpAny _ _ (callAny (.ref _) ⟨us, []⟩) _ _ _
  simp only [callAny]
  refine wpAny_bind (wpAny_load hu ?_)
  simp only [PySem.W.kxs_mw, show (Value.type "method-wrapper" == Value.type "method" || Value.type "method-wrapper" == Value.type "builtin_function_or_method" || Value.type "method-wrapper" == Value.type "method-wrapper") = true by decide, if_true]
  refine PySem.W.KFB.if_so (by decide) ?_
  refine wpAny_bind (PySem.W.check_bound_init F.excBase_ValueError.toExcCallFacts (KX3 _ _ hC) ho3 rfl ?_)
  refine wpAny_bind (wpAny_pure (wpAny_pure ?_))
  refine ⟨plainId_quiet F.excBase_ValueError.init.plain _, codeAny_builtin F.excBase_ValueError.initEntry ?_⟩
  refine PySem.W.exc_init_tree (cls := .ref C) (t0 := t3) (dv := none) (c2 := .none) (c3 := .none) (b4 := .bool false) ho3 hlen fun h2 k2 e2 t2 => ?_
  have J := (ClX.unpin I3).write (t' := tk1) (x := a) (e := a) (o := exo a C none) (by rw [hx1]; exact True.intro) (.inl rfl) k2 ⟨_, e2⟩ (exo_ok e2)
  have eu : upd H1 a (exo a C none) = H1 := by
    funext b
    by_cases hb : b = a
    · rw [hb, upd_same, hx1]
    · rw [upd_ne hb]
  rw [eu] at J
  exact q _ J
end
end Tw
namespace Tw
open PySem PySem.Spec PyProof.Rows L2
/-! ### the promise of an __init__ that begins with super().__init__(..) -/
theorem nm_ncx {CX : CXT} {P : Program} {w : World} {K : PySem.W.Frag} {mg : Str → Option Value} {base : Heap} {j : Nat} {N : List Str} {NS : List (Str × Nat)} {G : List Str} {F : NdefX.NF} {f : Addr} {A : Around} {outer : List Env} {s : Shared} {H : Hp} {E : XK}
    (h : nmB N NS G F.scope = true) (hc : ∀ y ∈ F.scope.names, y.2 ≠ .cell) (hr : Room j (A.deeper (NdefX.envF F f s.heap.objs.size))) : Nm P w K mg base j (NdefX.ncx CX P w K mg base N F f A outer s H E) NS NS G := by
  unfold nmB at h
  simp only [Bool.and_eq_true, Bool.or_eq_true, Bool.not_eq_true', decide_eq_true_eq, List.all_eq_true] at h
  obtain ⟨⟨h1, h2⟩, h3⟩ := h
  have loc : ∀ x i, (x, i) ∈ NS → F.scope.names.lookup x = some .local := fun x i hm => by
    obtain ⟨⟨⟨a, b⟩, c⟩, d⟩ := h2 (x, i) hm
    rcases b with b | b
    · exact b
    · exact absurd rfl (hc _ (PySem.mem_of_lookup b))
  refine ⟨rfl, rfl, rfl, rfl, rfl, hr, rfl, h1, fun x i hm => ?_, fun x i hm => ?_, fun x hm => ?_⟩
  · obtain ⟨⟨⟨a, b⟩, c⟩, d⟩ := h2 (x, i) hm
    exact ⟨a, .inl (loc x i hm), c, d⟩
  · obtain ⟨⟨⟨a, b⟩, c⟩, d⟩ := h2 (x, i) hm
    exact ⟨a, .inl (loc x i hm), .inr (loc x i hm)⟩
  · obtain ⟨⟨a, b⟩, c⟩ := h3 x hm
    exact ⟨a, b, c⟩
theorem lookup_one {c : Addr} {y z : Str} : ([(z, c)] : List (Str × Addr)).lookup y = if y = z then some c else none := by
  by_cases h : y = z
  · subst h
    simp [List.lookup]
  · have e : (y == z) = false := by simpa using h
    rw [if_neg h]
    simp [List.lookup, e]
/-- what the written call of super() looks like -/
structure SupSyn (env : Env) (e : Expr) (es : List Expr) (p0 p1 p2 p3 p4 : Pos) (pl : Sem Bool) : Prop where
  hi : interactive env = false
  hs : swapsWith (.Call (.Attribute (.Call (.Name "super" p0) [] [] p1) "__init__" p2) (e :: es) [] p3) none p4.line env = pure false
  hc : eval (.Call (.Attribute (.Call (.Name "super" p0) [] [] p1) "__init__" p2) (e :: es) [] p3) env = (do
      let ov ← attributeBase (.Call (.Name "super" p0) [] [] p1) "__init__" env (eval (.Call (.Name "super" p0) [] [] p1) env)
      standAt p2.atName
      let (fz, first) ← holding [ov] (getMethod ov "__init__" pl)
      callWith p3 fz first (backTo p3 (starEach (e :: es) env)) [])
  he : starEach (e :: es) env = (false, eval e env) :: starEach es env
  hpl : (backTo p3 (starEach es env)).any (·.1) = false
section
variable {CX : CXT} {P : Program} {w : World} {K : PySem.W.Frag} {mg : Str → Option Value} {base : Heap} {N ps : List Str} {x qual : Str} {st : Stmt} {f C cc cda : Addr} {fd : FuncData} {e : Expr} {es : List Expr} {p0 p1 p2 p3 p4 : Pos} {rest : List Stmt} {k : Nat} {sp : Sp}
theorem funC_ok (FC : FunC P K mg x qual st f C cc cda fd "ValueError.__init__") (T : OexC K C) (S : NdefX.NScope N ps ["__class__"] (defScope st)) (hN : N[0]? = some ("self" : Str)) (len : ∀ vs H Q E, sp vs H Q E → vs.length = ps.length)
    (hb0 : defBody st = .Expr (.Call (.Attribute (.Call (.Name "super" p0) [] [] p1) "__init__" p2) (e :: es) [] p3) p4 :: rest)
    (hbody : ∀ (A : Around) (outer : List Env) (s : Shared) (H : Hp) (vs : List V) (Q : VK) (E : XK), Room k (A.deeper (NdefX.envF (nfOf x qual st cc cda) f s.heap.objs.size)) → sp vs H Q E →
      ∃ (a : Addr) (ta : TA) (t : TS) (pl : Sem Bool), vs[0]? = some (.ref a) ∧ H a = some (exo a C none) ∧ SupSyn (NdefX.ncx CX P w K mg base N (nfOf x qual st cc cda) f A outer s H E).env e es p0 p1 p2 p3 p4 pl ∧
        PA (NdefX.ncx CX P w K mg base N (nfOf x qual st cc cda) f A outer s H E) (e :: es) ta ∧ PSs (NdefX.ncx CX P w K mg base N (nfOf x qual st cc cda) f A outer s H E) rest t ∧
        ∀ Pc : Hp → Prop, (∀ H1, t { nx := fun _ H' => Q .non H', rt := Q } (NdefX.startF N vs [none]) H1 → Pc H1) → ta (NdefX.startF N vs [none]) H fun us H1 => us.length ≤ 1000 ∧ H1 a = some (exo a C none) ∧ Pc H1) :
    FnOk P w K mg base CX (k + 1) f fd ps sp := by
  refine ⟨len, fun A outer s H args us vs Q E hr e0 hb r hsp => ?_⟩
  have hl := len _ _ _ _ hsp
  have KX : K.In s.heap := e0.mod.kin.keeps fun b o e => (e0.bs b o e).1
  have lim : s.heap.NoLimit := e0.mod.nolimit.keeps fun b o e => (e0.bs b o e).1
  obtain ⟨oc, od, kV, doc, pm, an, ct, osl, efd, lk⟩ := FC.ex
  obtain ⟨cl, cld, csl, hcell⟩ := FC.cell
  subst efd
  have hcc : H cc = none ∧ ∃ v, s.heap.IsCell cc v := ⟨(e0.bs cc _ (e0.mod.kin _ _ hcell)).2, _, _, KX _ _ hcell, rfl⟩
  have only : ∀ y c, ([("__class__", cc)] : List (Str × Addr)).lookup y = some c → y = ("__class__" : Str) ∧ c = cc := fun y c z => by
    rw [lookup_one] at z
    split at z
    · rename_i q
      exact ⟨q, (Option.some.inj z).symm⟩
    · cases z
  have C' : NdefX.CellsAt [("__class__", cc)] ["__class__"] [none] s.heap H := ⟨rfl, fun y c z => by
      obtain ⟨rfl, rfl⟩ := only y c z
      exact hcc, fun y z c h1 h2 => by rw [(only y c h1).1, (only z c h2).1], fun i y hi => by
      match i, hi with
      | 0, hi =>
        obtain rfl := Option.some.inj hi
        exact ⟨cc, by rw [lookup_one, if_pos rfl], fun v hv => by cases hv⟩
      | i + 1, hi => exact absurd hi (by simp)⟩
  refine codeAny_call_function hr.depth (KX _ _ lk) rfl S.co S.gen rfl (PySem.W.codeRec_of KX FC.cd) (hb _ _ _ _ ?_)
  refine wpAny_newFunctionEnv S.nocell (fun ⟨n, _⟩ hy => S.par n (List.of_mem_zip hy).1) (fun h₁ hns hsb => ⟨lim.fresh _ hsb, ?_⟩) S.kind
  show codeAny _ _ (.func (defBody st) (NdefX.envF (nfOf x qual st cc cda) f s.heap.objs.size)) _ _
  refine ks_codeAny_funcAt ?_
  have kp : ∀ b o, s.heap.get? b = some o → h₁.get? b = some o := fun b o e => hsb.extBut b o (Nat.ne_of_lt (Heap.lt_size e)) (Heap.get?_push_of_some _ e)
  obtain ⟨a, ta, t, pl, hv0, hx, Y, hpa, hps, hq⟩ := hbody A outer s H vs Q E (hr.deeper _) hsp
  have I : Inv (NdefX.ncx CX P w K mg base N (nfOf x qual st cc cda) f A outer s H E) [] (NdefX.startF N vs [none]) H { s with heap := h₁, toks := s.toks + (ps.zip us).length } := NdefX.inv_startN S hr.hd e0 hl r C' hns kp
  have fin : ∀ {s' : Shared} {σ' : L2.St} {H' : Hp} {v : V} {u : Value}, Inv (NdefX.ncx CX P w K mg base N (nfOf x qual st cc cda) f A outer s H E) [] σ' H' s' → L2.RelV v u → Q v H' → CE outer P w H s Q u s' :=
    fun {s' σ' H' v u} J rv q => ⟨v, H', J.os, J.bare, J.base, J.hok, rv, q⟩
  have hσ : (NdefX.startF N vs [none])[0]? = some (some (.ref a)) := by
    unfold NdefX.startF
    rw [List.getElem?_append_left (by rw [List.length_map]; exact (List.getElem?_eq_some_iff.mp hv0).1), List.getElem?_map, hv0]
    rfl
  have e1 : execs (defBody st) (NdefX.envF (nfOf x qual st cc cda) f s.heap.objs.size) = execs (.Expr (.Call (.Attribute (.Call (.Name "super" p0) [] [] p1) "__init__" p2) (e :: es) [] p3) p4 :: rest) (NdefX.envF (nfOf x qual st cc cda) f s.heap.objs.size) := congrArg (fun b => execs b _) hb0
  rw [e1]
  refine ks_wpAt_execs_cons (sup_stmt FC T S.kind hN I hσ hx hpa (hq (fun H1 => ∀ s', Inv (NdefX.ncx CX P w K mg base N (nfOf x qual st cc cda) f A outer s H E) [] (NdefX.startF N vs [none]) H1 s' → _) fun H1 ht s' J => ?_) Y.hi Y.hs Y.hc Y.he Y.hpl)
  refine wpAt_of_wpAny ?_
  refine wpAny_mono (hps.run [] _ (NdefX.startF N vs [none]) H1 _ J ht) (fun fl s' hs => ?_) fun e s' hs => hs
  cases fl with
  | ret u =>
    obtain ⟨v, σ', H', J, rv, q⟩ := hs
    exact fin J rv q
  | next =>
    obtain ⟨σ', H', J, q⟩ := hs
    exact fin (v := V.non) (u := Value.none) J rfl q
  | brk =>
    obtain ⟨_, _, _, q⟩ := hs
    exact False.elim q
  | cont =>
    obtain ⟨_, _, _, q⟩ := hs
    exact False.elim q
end
end Tw
namespace Tw
open PySem PySem.Spec PyProof.Rows L2
/-! ### rounds as mathematics: how often each state stands at a dial during one round of the dials below -/
def sm (f : Nat → Int) : Nat → Int
  | 0 => 0
  | n + 1 => sm f n + f n
theorem sm_ext {f g : Nat → Int} : ∀ {n : Nat}, (∀ i, i < n → f i = g i) → sm f n = sm g n
  | 0, _ => rfl
  | n + 1, h => by rw [sm, sm, sm_ext fun i hi => h i (Nat.lt_succ_of_lt hi), h n (Nat.lt_succ_self n)]
theorem sm_split (f : Nat → Int) (a : Nat) : ∀ b, sm f (a + b) = sm f a + sm (fun i => f (a + i)) b
  | 0 => by rw [Nat.add_zero, sm, Int.add_zero]
  | b + 1 => by rw [← Nat.add_assoc, sm, sm, sm_split f a b, Int.add_assoc]
theorem sm_plus (f g : Nat → Int) : ∀ n, sm (fun i => f i + g i) n = sm f n + sm g n
  | 0 => rfl
  | n + 1 => by rw [sm, sm, sm, sm_plus f g n]; omega
theorem sm_zero : ∀ n, sm (fun _ => 0) n = 0
  | 0 => rfl
  | n + 1 => by rw [sm, sm_zero n]; rfl
theorem sm_swap (F : Nat → Nat → Int) (m : Nat) : ∀ n, sm (fun i => sm (fun j => F i j) m) n = sm (fun j => sm (fun i => F i j) n) m
  | 0 => by
    rw [sm, ← sm_zero m]
    exact sm_ext fun j _ => rfl
  | n + 1 => by
    rw [sm, sm_swap F m n, ← sm_plus]
    exact sm_ext fun j _ => rfl
theorem sm_grid (f : Nat → Int) (L : Nat) : ∀ m, sm f (m * L) = sm (fun j => sm (fun i => f (j * L + i)) L) m
  | 0 => by rw [Nat.zero_mul]; rfl
  | m + 1 => by rw [Nat.succ_mul, sm_split, sm_grid f L m, sm]
theorem sm_list (f : Nat → Int) : ∀ n, sm f n = ((List.range n).map f).sum
  | 0 => rfl
  | n + 1 => by rw [sm, sm_list f n, List.range_succ, List.map_append, List.sum_append]; simp
theorem perm_sum {l l' : List Int} (h : l.Perm l') : l.sum = l'.sum := by
  induction h with
  | nil => rfl
  | cons x _ ih => rw [List.sum_cons, List.sum_cons, ih]
  | swap x y l => rw [List.sum_cons, List.sum_cons, List.sum_cons, List.sum_cons]; omega
  | trans _ _ a b => rw [a, b]
/-! the rests of t, 2 t, 3 t .. modulo a prime -/
theorem res2 : ∀ t, t < 2 → ∀ b, b < 2 → t ≠ 0 → ((List.range 2).map fun j => (j * t + b) % 2).isPerm (List.range 2) = true := by decide +kernel
theorem res3 : ∀ t, t < 3 → ∀ b, b < 3 → t ≠ 0 → ((List.range 3).map fun j => (j * t + b) % 3).isPerm (List.range 3) = true := by decide +kernel
theorem res5 : ∀ t, t < 5 → ∀ b, b < 5 → t ≠ 0 → ((List.range 5).map fun j => (j * t + b) % 5).isPerm (List.range 5) = true := by decide +kernel
theorem res7 : ∀ t, t < 7 → ∀ b, b < 7 → t ≠ 0 → ((List.range 7).map fun j => (j * t + b) % 7).isPerm (List.range 7) = true := by decide +kernel
theorem res_perm {p : Int} (hP : IsP p) {t b : Nat} (ht : (t : Int) < p) (hb : (b : Int) < p) (h0 : t ≠ 0) : ((List.range p.toNat).map fun j => (j * t + b) % p.toNat).Perm (List.range p.toNat) := by
  rcases hP with rfl | rfl | rfl | rfl
  · exact List.isPerm_iff.mp (res2 t (by omega) b (by omega) h0)
  · exact List.isPerm_iff.mp (res3 t (by omega) b (by omega) h0)
  · exact List.isPerm_iff.mp (res5 t (by omega) b (by omega) h0)
  · exact List.isPerm_iff.mp (res7 t (by omega) b (by omega) h0)
theorem res_sum {p : Int} (hP : IsP p) (T a : Int) (h0 : T % p ≠ 0) (g : Int → Int) : sm (fun j => g (((j : Int) * T + a) % p)) p.toNat = sm (fun x => g (x : Int)) p.toNat := by
  have p2 := hP.two
  have hp : ((p.toNat : Nat) : Int) = p := Int.toNat_of_nonneg (by omega)
  have t0 : 0 ≤ T % p := Int.emod_nonneg _ (by omega)
  have t1 : T % p < p := Int.emod_lt_of_pos _ (by omega)
  have a0 : 0 ≤ a % p := Int.emod_nonneg _ (by omega)
  have a1 : a % p < p := Int.emod_lt_of_pos _ (by omega)
  have q := res_perm hP (t := (T % p).toNat) (b := (a % p).toNat) (by omega) (by omega) (by omega)
  have e : ∀ j : Nat, ((j : Int) * T + a) % p = (((j * (T % p).toNat + (a % p).toNat) % p.toNat : Nat) : Int) := fun j => by
    rw [Int.natCast_emod, hp, Int.natCast_add, Int.natCast_mul, Int.toNat_of_nonneg t0, Int.toNat_of_nonneg a0]
    conv => lhs; rw [Int.add_emod, Int.mul_emod]
    conv => rhs; rw [Int.add_emod, Int.mul_emod, Int.emod_emod, Int.emod_emod]
  rw [sm_list, sm_list]
  have z := perm_sum (List.Perm.map (fun x : Nat => g (x : Int)) q)
  rw [List.map_map] at z
  rw [← z]
  congr 1
  refine List.map_congr_left fun j _ => ?_
  rw [e j]
  rfl
/-! the settings that come about from the setting of zeros -/
section
variable (p : Int) (M : Mach) (st : Int)
def itB (n : Nat) : Nat → List Int
  | 0 => List.replicate n 0
  | i + 1 => behM p M st (itB n i)
def sumT (n i : Nat) : Int := sm (fun k => turnM M (runM M st (itB p M st n k))) i
/-- L is how long the round of the setting of n zeros is -/
structure Per (n L : Nat) : Prop where
  pos : 0 < L
  back : itB p M st n L = List.replicate n 0
  fst : ∀ i, 0 < i → i < L → itB p M st n i ≠ List.replicate n 0
end
section
variable {p : Int} {M : Mach} {st : Int}
theorem behM_snoc (ds : List Int) (x : Int) : behM p M st (ds ++ [x]) = behM p M st ds ++ [(x + turnM M (runM M st ds)) % p] := by
  unfold behM
  rw [wayM_snoc, List.zipWith_append (by rw [wayM_len])]
  rfl
theorem itB_len (n : Nat) : ∀ i, (itB p M st n i).length = n
  | 0 => by rw [itB, List.length_replicate]
  | i + 1 => by rw [itB, behM_len, itB_len n i]
theorem itB_figs (hP : IsP p) (n : Nat) : ∀ i, ∀ d ∈ itB p M st n i, 0 ≤ d ∧ d < p
  | 0, d, hd => by
    have p2 := hP.two
    rw [itB] at hd
    rw [List.eq_of_mem_replicate hd]; omega
  | i + 1, d, hd => by rw [itB] at hd; exact behM_in hP _ _ d hd
theorem itB_up (hP : IsP p) (n : Nat) : ∀ i, itB p M st (n + 1) i = itB p M st n i ++ [sumT p M st n i % p]
  | 0 => by
    show List.replicate (n + 1) 0 = List.replicate n 0 ++ [(0 : Int) % p]
    rw [Int.zero_emod, List.replicate_succ']
  | i + 1 => by
    show behM p M st (itB p M st (n + 1) i) = behM p M st (itB p M st n i) ++ [(sumT p M st n i + turnM M (runM M st (itB p M st n i))) % p]
    rw [itB_up hP n i, behM_snoc, md_add hP]
theorem per_zero : Per p M st 0 1 := ⟨by decide, by
  have := itB_len (p := p) (M := M) (st := st) 0 1
  rw [List.length_eq_zero_iff.mp this]; rfl, fun i h1 h2 => by omega⟩
theorem Per.add {n L : Nat} (h : Per p M st n L) : ∀ i, itB p M st n (L + i) = itB p M st n i
  | 0 => by rw [Nat.add_zero, h.back]; rfl
  | i + 1 => by
    show behM p M st (itB p M st n (L + i)) = behM p M st (itB p M st n i)
    rw [h.add i]
theorem Per.mul {n L : Nat} (h : Per p M st n L) (i : Nat) : ∀ j, itB p M st n (j * L + i) = itB p M st n i
  | 0 => by rw [Nat.zero_mul, Nat.zero_add]
  | j + 1 => by rw [Nat.succ_mul, Nat.add_comm (j * L) L, Nat.add_assoc, h.add, h.mul i j]
theorem Per.sum {n L : Nat} (h : Per p M st n L) (i : Nat) : ∀ j, sumT p M st n (j * L + i) = (j : Int) * sumT p M st n L + sumT p M st n i
  | 0 => by rw [Nat.zero_mul, Nat.zero_add]; show _ = 0 * _ + _; rw [Int.zero_mul, Int.zero_add]
  | j + 1 => by
    have z := h.sum i j
    have e : sumT p M st n (L + (j * L + i)) = sumT p M st n L + sumT p M st n (j * L + i) := by
      show sm _ (L + (j * L + i)) = sm _ L + sm _ (j * L + i)
      rw [sm_split]
      congr 1
      exact sm_ext fun k _ => by rw [h.add]
    rw [Nat.succ_mul, Nat.add_comm (j * L) L, Nat.add_assoc, e, z, Int.natCast_add, Int.add_mul]
    show _ = _ + (1 : Int) * _ + _
    rw [Int.one_mul]; omega
theorem no_mul {p : Int} (hP : IsP p) {T : Int} (hT : T % p ≠ 0) {j : Nat} (j0 : 0 < j) (j1 : (j : Int) < p) : ((j : Int) * T) % p ≠ 0 := by
  have p2 := hP.two
  rw [Int.mul_emod]
  have t0 : 0 ≤ T % p := Int.emod_nonneg _ (by omega)
  have t1 : T % p < p := Int.emod_lt_of_pos _ (by omega)
  generalize T % p = t at *
  have ej : (j : Int) % p = j := Int.emod_eq_of_lt (by omega) j1
  rw [ej]
  rcases hP with rfl | rfl | rfl | rfl
  · have : j = 1 := by omega
    subst this; omega
  · have : j = 1 ∨ j = 2 := by omega
    rcases this with rfl | rfl <;> omega
  · have : j = 1 ∨ j = 2 ∨ j = 3 ∨ j = 4 := by omega
    rcases this with rfl | rfl | rfl | rfl <;> omega
  · have : j = 1 ∨ j = 2 ∨ j = 3 ∨ j = 4 ∨ j = 5 ∨ j = 6 := by omega
    rcases this with rfl | rfl | rfl | rfl | rfl | rfl <;> omega
theorem zeros_up (n : Nat) : List.replicate (n + 1) (0 : Int) = List.replicate n 0 ++ [0] := List.replicate_succ'
theorem snoc_inj {a b : List Int} {x y : Int} (h : a ++ [x] = b ++ [y]) : a = b ∧ x = y := by
  have := List.append_inj' h rfl
  exact ⟨this.1, by simpa using this.2⟩
theorem Per.next (hP : IsP p) {n L : Nat} (h : Per p M st n L) (hT : sumT p M st n L % p ≠ 0) : Per p M st (n + 1) (p.toNat * L) := by
  have p2 := hP.two
  have hp : ((p.toNat : Nat) : Int) = p := Int.toNat_of_nonneg (by omega)
  refine ⟨Nat.mul_pos (by omega) h.pos, ?_, fun i h0 h1 => ?_⟩
  · have e := h.mul 0 p.toNat
    have s := h.sum 0 p.toNat
    rw [Nat.add_zero] at e s
    rw [itB_up hP, e, s, hp, zeros_up]
    show List.replicate n 0 ++ _ = _
    congr 2
    show (p * _ + 0) % p = 0
    rw [Int.add_zero, Int.mul_emod_right]
  · have hd : i = i / L * L + i % L := (Nat.div_add_mod' i L).symm
    have hl : i % L < L := Nat.mod_lt _ h.pos
    have hj : i / L < p.toNat := Nat.div_lt_of_lt_mul (by rw [Nat.mul_comm]; exact h1)
    generalize i / L = j at *
    generalize i % L = r at *
    subst hd
    rw [itB_up hP, h.mul, h.sum, zeros_up]
    intro z
    obtain ⟨z1, z2⟩ := snoc_inj z
    by_cases c : r = 0
    · subst c
      have : sumT p M st n 0 = 0 := rfl
      rw [this, Int.add_zero] at z2
      exact no_mul hP hT (by rcases Nat.eq_zero_or_pos j with q | q
                             · rw [q] at h0; omega
                             · exact q) (by omega) z2
    · exact h.fst r (by omega) hl z1
/-- the sum of a weight over the states in which the dial is reached during the round -/
def rdG (p : Int) (M : Mach) (st : Int) (n L : Nat) (g : Int → Int) : Int := sm (fun i => g (runM M st (itB p M st n i))) L
def nxG (p : Int) (M : Mach) (g : Int → Int) (q : Int) : Int := sm (fun x => g (goM M q (x : Int))) p.toNat
theorem rdG_next (hP : IsP p) {n L : Nat} (h : Per p M st n L) (hT : sumT p M st n L % p ≠ 0) (g : Int → Int) : rdG p M st (n + 1) (p.toNat * L) g = rdG p M st n L (nxG p M g) := by
  unfold rdG
  rw [sm_grid, sm_swap (fun j i => g (runM M st (itB p M st (n + 1) (j * L + i)))) L p.toNat]
  refine sm_ext fun i hi => ?_
  unfold nxG
  rw [← res_sum hP (sumT p M st n L) (sumT p M st n i) hT fun x => g (goM M (runM M st (itB p M st n i)) x)]
  refine sm_ext fun j hj => ?_
  rw [itB_up hP, runM_snoc, h.mul, h.sum]
theorem rdG_zero (g : Int → Int) : rdG p M st 0 1 g = g st := by
  show 0 + g (runM M st (List.replicate 0 0)) = g st
  rw [Int.zero_add]; rfl
end
end Tw
namespace Tw
open PySem PySem.Spec PyProof.Rows L2
/-! ### counts against visits -/
theorem sm_one (k : Nat) (a : Int) : ∀ n, k < n → sm (fun q => if q = k then a else 0) n = a
  | 0, h => by omega
  | n + 1, h => by
    rw [sm]
    by_cases c : n = k
    · subst c
      have e : sm (fun q => if q = n then a else 0) n = sm (fun _ => 0) n := sm_ext fun i hi => by
        show (if i = n then a else 0) = 0
        rw [if_neg (by omega)]
      rw [e, sm_zero, if_pos rfl, Int.zero_add]
    · rw [sm_one k a n (by omega), if_neg c, Int.add_zero]
theorem getD_set (l : List Int) (k : Nat) (v : Int) (hk : k < l.length) (q : Nat) : (l.set k v).getD q 0 = if q = k then v else l.getD q 0 := by
  rw [List.getD_eq_getElem?_getD, List.getElem?_set]
  by_cases c : q = k
  · subst c
    rw [if_pos rfl, if_pos rfl, if_pos hk]; rfl
  · rw [if_neg (fun e => c e.symm), if_neg c, List.getD_eq_getElem?_getD]
/-- the weighted sum of counts -/
def prC (l : List Int) (g : Int → Int) : Int := sm (fun q => l.getD q 0 * g (q : Int)) l.length
theorem prC_addA (l : List Int) (g : Int → Int) (s c : Int) (s0 : 0 ≤ s) (s1 : s < (l.length : Int)) : prC (addA l s c) g = prC l g + c * g s := by
  have hk : s.toNat < l.length := by omega
  have es : ((s.toNat : Nat) : Int) = s := Int.toNat_of_nonneg s0
  unfold prC
  rw [addA_len]
  have e : sm (fun q => (addA l s c).getD q 0 * g (q : Int)) l.length = sm (fun q => l.getD q 0 * g (q : Int) + if q = s.toNat then c * g s else 0) l.length := sm_ext fun q hq => by
    show (l.set s.toNat (l.getD s.toNat 0 + c)).getD q 0 * g (q : Int) = l.getD q 0 * g (q : Int) + _
    rw [getD_set l _ _ hk]
    by_cases d : q = s.toNat
    · subst d
      rw [if_pos rfl, if_pos rfl, es, Int.add_mul]
    · rw [if_neg d, if_neg d, Int.add_zero]
  rw [e, sm_plus, sm_one _ _ _ hk]
theorem prC_addR (g : Int → Int) (c : Int) (gs : List Int) : ∀ l : List Int, (∀ s ∈ gs, 0 ≤ s ∧ s < (l.length : Int)) → prC (addR l gs c) g = prC l g + c * (gs.map g).sum := by
  induction gs with
  | nil => intro l _; show prC l g = _ + c * 0; rw [Int.mul_zero, Int.add_zero]
  | cons s r ih =>
    intro l h
    show prC (addR (addA l s c) r c) g = _
    have hs := h s (List.mem_cons_self ..)
    rw [ih _ fun x hx => by rw [addA_len]; exact h x (List.mem_cons_of_mem _ hx), prC_addA l g s c hs.1 hs.2, List.map_cons, List.sum_cons, Int.mul_add]
    omega
theorem prC_zero (n : Nat) (g : Int → Int) : prC (List.replicate n 0) g = 0 := by
  refine Eq.trans (sm_ext (g := fun _ => 0) fun q hq => ?_) (sm_zero _)
  have e : (List.replicate n (0 : Int)).getD q 0 = 0 := by
    rw [List.getD_eq_getElem?_getD]
    cases h : (List.replicate n (0 : Int))[q]? with
    | none => rfl
    | some x => exact List.eq_of_mem_replicate (List.mem_of_getElem? h)
  rw [e, Int.zero_mul]
theorem sum_at (gs : List Int) (g : Int → Int) : (gs.map g).sum = sm (fun x => g (gs.getD x 0)) gs.length := by
  rw [sm_list]
  congr 1
  refine List.ext_getElem? fun i => ?_
  rw [List.getElem?_map, List.getElem?_map]
  by_cases h : i < gs.length
  · rw [List.getElem?_range h, List.getElem?_eq_getElem h]
    show some (g gs[i]) = some (g (gs.getD i 0))
    rw [List.getD_eq_getElem?_getD]
    show some _ = some (g ((gs[i]?).getD 0))
    rw [List.getElem?_eq_getElem h]; rfl
  · rw [List.getElem?_eq_none (by omega), List.getElem?_eq_none (by rw [List.length_range]; omega)]; rfl
section
variable {p : Int} {M : Mach}
theorem prC_sum (hO : OkM p M.length M) (cs : List Int) (g : Int → Int) : ∀ k, k ≤ M.length → prC (sumC M cs k) g = sm (fun q => cs.getD q 0 * nxG p M g (q : Int)) k
  | 0, _ => prC_zero _ g
  | k + 1, h => by
    have hk : k < M.length := h
    have ek : M.getD k (0, []) = M[k] := by rw [List.getD_eq_getElem?_getD, List.getElem?_eq_getElem hk]; rfl
    have hm := List.getElem_mem hk
    rw [sumC, sm, prC_addR g _ _ _ (fun s hs => by
      rw [ek] at hs
      rw [sumC_len]
      exact hO.goal _ hm s hs), prC_sum hO cs g k (by omega), sum_at]
    congr 2
    unfold nxG
    have hl := hO.many _ hm
    rw [ek]
    have e : M[k].2.length = p.toNat := by omega
    rw [e]
    refine sm_ext fun x _ => ?_
    show _ = g ((M.getD (k : Int).toNat (0, [])).2.getD (x : Int).toNat 0)
    rw [Int.toNat_natCast, Int.toNat_natCast, ek]
theorem sm_mod {f g : Nat → Int} (p : Int) (h : ∀ i, f i % p = g i % p) : ∀ n, sm f n % p = sm g n % p
  | 0 => rfl
  | n + 1 => by rw [sm, sm, Int.add_emod, sm_mod p h n, h n, ← Int.add_emod]
theorem prC_mod (p : Int) (l : List Int) (g : Int → Int) : prC (l.map (· % p)) g % p = prC l g % p := by
  unfold prC
  rw [List.length_map]
  refine sm_mod p (fun q => ?_) _
  rw [getD_md, Int.mul_emod, Int.emod_emod, ← Int.mul_emod]
theorem prC_next (hO : OkM p M.length M) {cs : List Int} (hc : CsOk p M cs) (g : Int → Int) : prC (nextC p M cs) g % p = prC cs (nxG p M g) % p := by
  unfold nextC
  rw [prC_mod, prC_sum hO cs g _ (Nat.le_refl _)]
  unfold prC
  rw [hc.len]
theorem prC_first {st : Int} (z0 : 0 ≤ st) (z1 : st < (M.length : Int)) (g : Int → Int) : prC (firstC M st) g = g st := by
  have e : firstC M st = addA (List.replicate M.length 0) st 1 := by
    unfold firstC addA
    refine List.ext_getElem? fun i => ?_
    rw [List.getElem?_map, List.getElem?_set]
    by_cases h : i < M.length
    · rw [List.getElem?_range h]
      by_cases c : st.toNat = i
      · rw [if_pos c, if_pos (by rw [List.length_replicate]; omega)]
        show some (if (i : Int) = st then (1 : Int) else 0) = _
        rw [if_pos (by omega)]
        have q : (List.replicate M.length (0 : Int)).getD st.toNat 0 = 0 := by
          rw [List.getD_eq_getElem?_getD, List.getElem?_replicate, if_pos (by omega)]; rfl
        rw [q]; rfl
      · rw [if_neg c, List.getElem?_replicate, if_pos h]
        show some (if (i : Int) = st then (1 : Int) else 0) = _
        rw [if_neg (by omega)]
    · have n1 : (List.range M.length)[i]? = none := List.getElem?_eq_none (by rw [List.length_range]; omega)
      have n2 : (List.replicate M.length (0 : Int))[i]? = none := List.getElem?_eq_none (by rw [List.length_replicate]; omega)
      rw [n1, n2, if_neg (show ¬ st.toNat = i by omega)]; rfl
  rw [e, prC_addA _ g st 1 z0 (by rw [List.length_replicate]; exact z1), prC_zero, Int.one_mul, Int.zero_add]
variable {st : Int}
/-- n dials: how long the round is, and that the counts weigh as the visits -/
structure Rnd (p : Int) (M : Mach) (st : Int) (n L : Nat) : Prop where
  per : Per p M st n L
  wt : ∀ g, rdG p M st n L g % p = prC (itC p M st n) g % p
theorem Rnd.zero (z0 : 0 ≤ st) (z1 : st < (M.length : Int)) : Rnd p M st 0 1 := ⟨per_zero, fun g => by
  rw [rdG_zero]
  show _ = prC (firstC M st) g % p
  rw [prC_first z0 z1]⟩
theorem tot_wt {cs : List Int} (hc : CsOk p M cs) : totC p M cs = prC cs (turnM M) % p := by
  unfold totC prodC prC
  rw [hc.len, sm_list]
  congr 2
theorem Rnd.tot (hP : IsP p) {n L : Nat} (h : Rnd p M st n L) : sumT p M st n L % p = totN p M st n := by
  unfold totN
  rw [tot_wt (itC_ok hP M st n), ← h.wt]
  rfl
theorem Rnd.next (hP : IsP p) (hO : OkM p M.length M) {n L : Nat} (h : Rnd p M st n L) (hT : sumT p M st n L % p ≠ 0) : Rnd p M st (n + 1) (p.toNat * L) := ⟨h.per.next hP hT, fun g => by
  rw [rdG_next hP h.per hT, h.wt]
  show _ = prC (nextC p M (itC p M st n)) g % p
  rw [prC_next hO (itC_ok hP M st n)]⟩
/-- the visits as the law counts them -/
def visF (p : Int) (M : Mach) (st : Int) (n : Nat) : Nat → List Int
  | 0 => List.replicate M.length 0
  | i + 1 => addA (visF p M st n i) (runM M st (itB p M st n i)) 1
theorem visF_len (n : Nat) : ∀ i, (visF p M st n i).length = M.length
  | 0 => List.length_replicate
  | i + 1 => by rw [visF, addA_len, visF_len n i]
theorem here_in (hP : IsP p) (hO : OkM p M.length M) (z0 : 0 ≤ st) (z1 : st < (M.length : Int)) (n i : Nat) : 0 ≤ runM M st (itB p M st n i) ∧ runM M st (itB p M st n i) < (M.length : Int) :=
  runM_in hO rfl _ z0 z1 (itB_figs hP n i)
theorem visF_wt (hP : IsP p) (hO : OkM p M.length M) (z0 : 0 ≤ st) (z1 : st < (M.length : Int)) (n : Nat) (g : Int → Int) : ∀ i, prC (visF p M st n i) g = sm (fun k => g (runM M st (itB p M st n k))) i
  | 0 => prC_zero _ g
  | i + 1 => by
    have q := here_in hP hO z0 z1 n i
    rw [visF, prC_addA _ g _ 1 q.1 (by rw [visF_len]; exact q.2), visF_wt hP hO z0 z1 n g i, sm, Int.one_mul]
theorem prC_ind (l : List Int) (r : Nat) (hr : r < l.length) : prC l (fun q => if q = (r : Int) then 1 else 0) = l.getD r 0 := by
  unfold prC
  rw [← sm_one r (l.getD r 0) l.length hr]
  refine sm_ext fun q _ => ?_
  by_cases c : q = r
  · subst c
    show l.getD q 0 * (if (q : Int) = (q : Int) then 1 else 0) = _
    rw [if_pos rfl, if_pos rfl, Int.mul_one]
  · show l.getD q 0 * (if (q : Int) = (r : Int) then 1 else 0) = _
    rw [if_neg (by omega), if_neg c, Int.mul_zero]
theorem Rnd.vis (hP : IsP p) (hO : OkM p M.length M) (z0 : 0 ≤ st) (z1 : st < (M.length : Int)) {n L : Nat} (h : Rnd p M st n L) : (visF p M st n L).map (· % p) = itC p M st n := by
  have hc := itC_ok hP M st n
  refine List.ext_getElem? fun r => ?_
  by_cases c : r < M.length
  · have e := h.wt fun q => if q = (r : Int) then 1 else 0
    have e2 := visF_wt hP hO z0 z1 n (fun q => if q = (r : Int) then 1 else 0) L
    rw [prC_ind _ r (by rw [visF_len]; exact c)] at e2
    unfold rdG at e
    rw [← e2, prC_ind _ r (by rw [hc.len]; exact c)] at e
    have h1 : r < (visF p M st n L).length := by rw [visF_len]; exact c
    have h2 : r < (itC p M st n).length := by rw [hc.len]; exact c
    rw [List.getElem?_map, List.getElem?_eq_getElem h1, List.getElem?_eq_getElem h2]
    rw [List.getD_eq_getElem?_getD, List.getD_eq_getElem?_getD, List.getElem?_eq_getElem h1, List.getElem?_eq_getElem h2] at e
    have v := hc.val _ (List.getElem_mem h2)
    show some ((visF p M st n L)[r] % p) = some _
    congr 1
    have e' : (visF p M st n L)[r] % p = (itC p M st n)[r] % p := e
    rw [e', Int.emod_eq_of_lt v.1 v.2]
  · rw [List.getElem?_eq_none (by rw [List.length_map, visF_len]; omega), List.getElem?_eq_none (by rw [hc.len]; omega)]
end
end Tw
namespace Tw
open PySem PySem.Spec PyProof.Rows L2
/-! ### a tuple any number of times: once is the tuple itself, no times is an empty one made anew -/
end Tw
namespace Tw
open PySem PySem.Spec PyProof.Rows L2
/-! ### super().__init__(x) where the next class has an own __init__ -/
/-- a method of the class at C whose body reads __class__; fA: the method that super() finds -/
structure FunO (P : Program) (K : PySem.W.Frag) (mg : Str → Option Value) (x qual : Str) (st : Stmt) (f C cc cda : Addr) (fd : FuncData) (fA : Addr) : Prop where
  ex : ∃ (oc : Value) (od : Option Addr) (kV doc pm : Value) (an : Option Addr) (ct : Value) (osl : Array (Option Value)),
    fd = PySem.W.fnX x qual (defArgs st) (defBody st) (defScope st) [("__class__", cc)] .none kV doc pm an (.ref cda) ct ∧ K.lookup f = some ⟨oc, od, .func fd, osl⟩
  cd : PySem.W.codeIn K (.ref cda) qual = true
  cell : ∃ (cl : Value) (cld : Option Addr) (csl : Array (Option Value)), K.lookup cc = some ⟨cl, cld, .cell (some (.ref C)), csl⟩
  co : ∃ (ccl : Value) (cdd : Option Addr) (vs : Array Value) (ccs : Array (Option Value)) (file : Str) (tf : Tok), K.lookup cda = some ⟨ccl, cdd, .fields vs, ccs⟩ ∧ vs[2]? = some (.str file tf) ∧ ((P.main.file : Str) == file) = true
  cls : PySem.W.isClsIn K C = true
  mro : PySem.W.mroIn K C (.ref C) = some true
  sup : PySem.W.ks_superIn K C C "__init__" = some (some (.ref fA))
  fi : PySem.W.fnIn K fA = true
  fo : PySem.W.isFn K (.ref fA) = true
  opq : PySem.W.nsIn K cStatics "thirdparty.any" = some none
  mgs : mg "super" = none
  top : (P.main.scope.names.lookup ("super" : Str)).isSome = false
  par : ∃ ar, ((defArgs st).posonlyargs ++ (defArgs st).args).head? = some ar ∧ ar.arg = ("self" : Str)
  scS : (defScope st).names.lookup ("super" : Str) = some .globalImplicit
  scC : (defScope st).names.lookup ("__class__" : Str) = some .free
  scL : (defScope st).names.lookup ("self" : Str) = some .local
section
variable {P : Program} {w : World} {K : PySem.W.Frag} {mg : Str → Option Value} {base : Heap} {N : List Str} {x qual : Str} {st : Stmt} {f C cc cda a fA dx : Addr} {fs : List (Str × V)} {fd : FuncData} {A : Around} {outer : List Env} {s0 s : Shared} {H0 H : Hp} {E : XK} {σ : L2.St} {e : Expr} {es : List Expr} {ta : TA} {p0 p1 p2 p3 p4 : Pos} {R : Flow → Shared → Prop} {spA : Sp} {kA : Nat} {pl : Sem Bool}
end
section
variable {P : Program} {w : World} {K : PySem.W.Frag} {mg : Str → Option Value} {base : Heap} {N ps : List Str} {x qual : Str} {st : Stmt} {f C cc cda : Addr} {fd : FuncData} {e : Expr} {es : List Expr} {p0 p1 p2 p3 p4 : Pos} {rest : List Stmt} {k : Nat} {sp : Sp}
end
end Tw
namespace Tw
open PySem PySem.Spec PyProof.Rows L2
/-! ### a comprehension whose items are lists made anew -/
theorem lcB {K : PySem.W.Frag} {J : It} {xs : List V} {R : Nat → V → Hp → Prop} {g : TG} {te : TE} {vs : List Nat} {σ : L2.St} {H1 : Hp} {D : Addr} {Qd : Hp → Prop} (hD : H1 D = none) (hz : xs.length < sizeLine)
    (hgo : ∀ H (j : Nat), Same H1 H → j < xs.length → J.go j H) (hstop : ∀ H, Same H1 H → J.stop xs.length H)
    (hR : ∀ i y H H', Same H H' → R i y H → R i y H') (hRl : ∀ i y H zs, R i y H → R i y (upd H D (.lst zs)))
    (he : ∀ (j : Nat) x H' v H2 (Qk : V → Hp → Prop), xs[j]? = some x → Same H1 H' → (∃ ys, H' D = some (.lst ys)) → J.yld j H' v H2 → (∀ y H3, Same H' H3 → R j y H3 → Qk y H3) → g v (wipe σ vs) H2 fun σ2 H3 => wipe σ2 vs = wipe σ vs ∧ te σ2 H3 Qk)
    (hd : ∀ ys H', Same H1 H' → H' D = some (.lst ys) → ys.length = xs.length → (∀ (i : Nat) y, ys[i]? = some y → R i y H') → Qd H')
    (hgm : ∀ v σ H (A B : L2.St → Hp → Prop), (∀ σ H, A σ H → B σ H) → g v σ H A → g v σ H B) :
    ∃ W : Nat → Nat → Hp → Prop, (∃ m, W 0 m (upd H1 D (.lst []))) ∧ ∀ i' m H, W i' m H →
      (J.stop i' H ∧ Qd H) ∨ (J.go i' H ∧ ∃ Nx : Hp → Prop, (∀ H', Nx H' → ∃ m', m' < m ∧ W (i' + 1) m' H') ∧ ∀ x H', J.yld i' H x H' → g x (wipe σ vs) H' fun σ2 H2 => wipe σ2 vs = wipe σ vs ∧ tYes σ2 H2 fun b H3 =>
        if b = true then te σ2 H3 fun y H4 => ∃ acc, H4 D = some (.lst acc) ∧ acc.length < sizeLine ∧ Nx (upd H4 D (.lst (acc ++ [y]))) else Nx H3) := by
  refine ⟨fun j m H => m = xs.length - j ∧ j ≤ xs.length ∧ Same H1 H ∧ ∃ ys, H D = some (.lst ys) ∧ ys.length = j ∧ ∀ (i : Nat) y, ys[i]? = some y → R i y H,
    ⟨xs.length, rfl, Nat.zero_le _, same_new hD, [], upd_same, rfl, fun i y h => by simp at h⟩, ?_⟩
  rintro j m H ⟨rfl, hj, s1, ys, hDl, hyl, hy⟩
  by_cases c : j < xs.length
  · have hx : xs[j]? = some xs[j] := List.getElem?_eq_getElem c
    refine .inr ⟨hgo H j s1 c, fun H' => Same H1 H' ∧ ∃ ys, H' D = some (.lst ys) ∧ ys.length = j + 1 ∧ ∀ (i : Nat) y, ys[i]? = some y → R i y H', fun H' p => ⟨xs.length - (j + 1), by omega, rfl, c, p⟩, ?_⟩
    intro v H' hyld
    refine hgm _ _ _ _ _ (fun σ2 H2 p => ⟨p.1, yes_ p.2⟩) (he j _ H v H' (fun y H4 => ∃ acc, H4 D = some (.lst acc) ∧ acc.length < sizeLine ∧ Same H1 (upd H4 D (.lst (acc ++ [y]))) ∧ ∃ ys, (upd H4 D (.lst (acc ++ [y]))) D = some (.lst ys) ∧ ys.length = j + 1 ∧ ∀ (i : Nat) z, ys[i]? = some z → R i z (upd H4 D (.lst (acc ++ [y])))) hx s1 ⟨ys, hDl⟩ hyld fun y H3 s3 r => ?_)
    refine ⟨ys, s3 _ _ hDl, by omega, same_put (Same.trans s1 s3) hD, ys ++ [y], upd_same, by simp [hyl], fun i z hz' => ?_⟩
    by_cases ci : i < ys.length
    · rw [List.getElem?_append_left ci] at hz'
      exact hRl _ _ _ _ (hR _ _ _ _ s3 (hy i z hz'))
    · rw [List.getElem?_append_right (by omega)] at hz'
      by_cases c0 : i - ys.length = 0
      · rw [c0] at hz'
        obtain rfl := Option.some.inj hz'
        have ei : i = j := by omega
        subst ei
        exact hRl _ _ _ _ r
      · obtain ⟨q, hq⟩ : ∃ q, i - ys.length = q + 1 := ⟨i - ys.length - 1, by omega⟩
        rw [hq] at hz'
        simp at hz'
  · have e : j = xs.length := by omega
    subst e
    exact .inl ⟨hstop H s1, hd ys H s1 hDl hyl hy⟩
/-! ### a dict of the places of tuples of ints -/
def kyL (ds : List Int) : List Key := ds.map Sum.inl
theorem kyL_inj : ∀ {ds es : List Int}, kyL ds = kyL es → ds = es
  | [], [], _ => rfl
  | [], _ :: _, h => by cases h
  | _ :: _, [], h => by cases h
  | a :: r, b :: q, h => by
    injection h with h1 h2
    injection h1 with h1
    rw [h1, kyL_inj h2]
theorem kyL_kV (ds : List Int) : (kyL ds).map kV = ds.map V.int := by
  unfold kyL
  rw [List.map_map]; rfl
/-- the first place below n at which f is d -/
def fstAt (f : Nat → List Int) (d : List Int) : Nat → Option Nat
  | 0 => none
  | n + 1 => match fstAt f d n with
    | some i => some i
    | none => if f n = d then some n else none
/-- a dict holds for each list its first place below n -/
structure PlL (kvs : List (List Key × V)) (f : Nat → List Int) (n : Nat) : Prop where
  len : kvs.length ≤ n
  val : ∀ d, valV kvs (kyL d) = (fstAt f d n).map fun (i : Nat) => V.int (i : Int)
end Tw
namespace Tw
open PySem PySem.Spec PyProof.Rows L2
/-! ### a dial above which the total is 0: its round is as long as the one below -/
section
variable {p : Int} {M : Mach} {st : Int}
theorem Per.stay (hP : IsP p) {n L : Nat} (h : Per p M st n L) (hT : sumT p M st n L % p = 0) : Per p M st (n + 1) L := by
  refine ⟨h.pos, ?_, fun i h0 h1 e => ?_⟩
  · rw [itB_up hP, h.back, hT, zeros_up]
  · rw [itB_up hP, zeros_up] at e
    exact h.fst i h0 h1 (snoc_inj e).1
/-- .. and it does not come to the setting with 1 at that dial -/
theorem Per.apart (hP : IsP p) {n L : Nat} (h : Per p M st n L) (hT : sumT p M st n L % p = 0) : ∀ i, i < L → itB p M st (n + 1) i ≠ List.replicate n 0 ++ [1] := fun i hi e => by
  rw [itB_up hP] at e
  obtain ⟨e1, e2⟩ := snoc_inj e
  rcases Nat.eq_zero_or_pos i with q | q
  · subst q
    have z : sumT p M st n 0 % p = 0 := by
      show (0 : Int) % p = 0
      exact Int.zero_emod p
    rw [z] at e2
    exact absurd e2 (by decide)
  · exact h.fst i q hi e1
/-- all totals below n differ from 0: the round of n dials -/
theorem Rnd.of (hP : IsP p) (hO : OkM p M.length M) (z0 : 0 ≤ st) (z1 : st < (M.length : Int)) : ∀ n, (∀ i, i < n → totN p M st i ≠ 0) → Rnd p M st n (p.toNat ^ n)
  | 0, _ => Rnd.zero z0 z1
  | n + 1, h => by
    have r := Rnd.of hP hO z0 z1 n fun i hi => h i (by omega)
    have q := r.next hP hO (by rw [r.tot hP]; exact h n (Nat.lt_succ_self n))
    rw [Nat.pow_succ, Nat.mul_comm]
    exact q
end
end Tw
namespace Tw
open PySem PySem.Spec PyProof.Rows L2
/-! ### a tuple of ints in a list of such -/
end Tw
namespace Tw
open PySem PySem.Spec PyProof.Rows L2
/-! ### totals as weights brought down, dial by dial (for totals of products, inverses and least turners) -/
section
variable {p : Int} {M N : Mach} {st : Int}
end
end Tw
namespace Tw
open PySem PySem.Spec PyProof.Rows L2
/-! ### what the top leaves, read off once: the part of the heap that the law needs, its defs and its facts -/
abbrev Fg := PySem.W.Frag
def vAd : Value → List Addr
  | .ref a => [a]
  | _ => []
/-- a def's code, its keyword defaults and its cells; a class's names -/
def rfDef (o : Obj) : List Addr := match o.data with
  | .func fd => vAd fd.code ++ (vAd fd.kwdefaults ++ fd.closure.map (·.2))
  | .cls cd => [cd.ns]
  | _ => []
def rfNs (o : Obj) : List Addr := match o.data with
  | .dict es _ => (es.toList.map fun e => vAd e.val).flatten
  | _ => []
/-- what stands in a property, a static method, a class method -/
def rfRec (o : Obj) : List Addr := match o.data with
  | .fields vs => if o.cls == .type "property" || o.cls == .type "staticmethod" || o.cls == .type "classmethod" then (vs.toList.map vAd).flatten else []
  | _ => []
def nxtA (g : Addr → Option Obj) (rf : Obj → List Addr) (as : List Addr) : List Addr := (as.map fun a => match g a with
  | some o => rf o
  | none => []).flatten
def adrH (ns : List Str) (g : Addr → Option Obj) : List Addr :=
  (fun n0 => (fun n1 => (fun n2 => (fun n3 => n0 ++ (n2 ++ (n1 ++ (nxtA g rfDef n2 ++ (n3 ++ (nxtA g rfDef n3 ++ [mainGlobals, cStatics])))))) (nxtA g rfRec n2)) (nxtA g rfNs n1)) (nxtA g rfDef n0)) (ns.map (He.ga (He.frG g [mainGlobals])))
/-- a def as it stands in the text, and where -/
structure FdO where
  at_ : Fg → Addr
  name : Str
  qual : Str
  params : Arguments
  body : List Stmt
  scope : Scope
  clo : List Str
  kwd : List (Str × V)
abbrev FvO := Option (Str × Str × Arguments × FuncBody × Scope × Addr × List Str × Addr)
def fvO (K : Fg) (a : Addr) : FvO := match K.lookup a with
  | some ⟨_, _, .func fd, _⟩ => some (fd.name, fd.qualname, fd.params, fd.body, fd.scope, fd.globals, fd.closure.map (·.1), fd.builtins)
  | _ => none
def FdO.val (d : FdO) : FvO := some (d.name, d.qual, d.params, .stmts d.body, d.scope, mainGlobals, d.clo, builtinsNs)
def FdO.ok (K : Fg) (d : FdO) : Bool := PySem.W.keepIn K (.ref (d.at_ K)) && match K.lookup (d.at_ K) with
  | some ⟨_, _, .func fd, _⟩ => PySem.W.codeIn K fd.code d.qual && (He.dflB K fd.defaults [] && He.kwdB K fd.kwdefaults d.kwd)
  | _ => false
abbrev AlO := List FvO × Bool
def obO (fs : List FdO) (ex : Fg → List Bool) (K : Fg) : AlO := (fs.map fun d => fvO K (d.at_ K), fs.all (FdO.ok K) && (ex K).all id)
def SaysO (fs : List FdO) (ex : Fg → List Bool) (K : Fg) : Prop := obO fs ex K = (fs.map FdO.val, true)
def obG (ns : List Str) (fs : List FdO) (ex : Fg → List Bool) (g : Addr → Option Obj) : AlO := obO fs ex (He.frG g (adrH ns g))
def hookO (ns : List Str) (fs : List FdO) (ex : Fg → List Bool) : PySem.W.Hook where
  α := AlO
  obs := fun s => obG ns fs ex s.heap.get?
  val := fun _ => (fs.map FdO.val, true)
  says := fun _ h => ∃ K : Fg, K.In h ∧ SaysO fs ex K
  of := fun _ s e => ⟨_, He.frG_in, e⟩
  keeps := fun _ h h' ⟨K, k, c⟩ e => ⟨K, fun a o z => e a o (k a o z), c⟩
theorem obG_eq (ns : List Str) (fs : List FdO) (ex : Fg → List Bool) (s : PySem.W.SharedT) : obG ns fs ex (HandSHeadRun.getT s) = (hookO ns fs ex).obs s.abs := by
  rw [show HandSHeadRun.getT s = s.abs.heap.get? from funext (HandSHeadRun.getT_eq s)]
  rfl
theorem says_ex {fs : List FdO} {ex : Fg → List Bool} {K : Fg} (c : SaysO fs ex K) (i : Nat) {b : Bool} (h : (ex K)[i]? = some b) : b = true := by
  have e : (fs.all (FdO.ok K) && (ex K).all id) = true := congrArg Prod.snd c
  rw [Bool.and_eq_true_iff] at e
  exact List.all_eq_true.mp e.2 b (List.mem_of_getElem? h)
theorem says_fd {fs : List FdO} {ex : Fg → List Bool} {K : Fg} (c : SaysO fs ex K) (i : Nat) {d : FdO} (h : fs[i]? = some d) :
    ∃ fd oc od osl, K.lookup (d.at_ K) = some ⟨oc, od, .func fd, osl⟩ ∧ PySem.W.keepIn K (.ref (d.at_ K)) = true ∧ PySem.W.codeIn K fd.code d.qual = true ∧ DflV K fd.defaults [] ∧ KwdV K fd.kwdefaults d.kwd ∧ fd.defaults = .none ∧
      fd.name = d.name ∧ fd.qualname = d.qual ∧ fd.params = d.params ∧ fd.body = .stmts d.body ∧ fd.scope = d.scope ∧ fd.globals = mainGlobals ∧ fd.closure.map (·.1) = d.clo ∧ fd.builtins = builtinsNs := by
  have e1 : (fs.map fun d => fvO K (d.at_ K)) = fs.map FdO.val := congrArg Prod.fst c
  have e2 : (fs.all (FdO.ok K) && (ex K).all id) = true := congrArg Prod.snd c
  rw [Bool.and_eq_true_iff] at e2
  have e3 : FdO.ok K d = true := List.all_eq_true.mp e2.1 d (List.mem_of_getElem? h)
  have e4 : (fs.map fun d => fvO K (d.at_ K))[i]? = (fs.map FdO.val)[i]? := by rw [e1]
  rw [List.getElem?_map, List.getElem?_map, h] at e4
  have e5 : fvO K (d.at_ K) = FdO.val d := Option.some.inj e4
  unfold FdO.ok at e3
  rw [Bool.and_eq_true_iff] at e3
  obtain ⟨hk, e3⟩ := e3
  unfold fvO FdO.val at e5
  split at e5
  · rename_i oc od fd osl hl
    rw [hl] at e3
    dsimp only at e3
    rw [Bool.and_eq_true_iff, Bool.and_eq_true_iff] at e3
    have e6 := Option.some.inj e5
    simp only [Prod.mk.injEq] at e6
    obtain ⟨a1, a2, a3, a4, a5, a6, a7, a8⟩ := e6
    refine ⟨fd, oc, od, osl, hl, hk, e3.1, He.dflB_ok e3.2.1, He.kwdB_ok e3.2.2, ?_, a1, a2, a3, a4, a5, a6, a7, a8⟩
    have z := e3.2.1
    unfold He.dflB at z
    dsimp only at z
    split at z
    · rename_i hz; exact hz
    · cases z
  · cases e5
theorem says_fun {fs : List FdO} {ex : Fg → List Bool} {K : Fg} (c : SaysO fs ex K) (i : Nat) {at_ : Fg → Addr} {x qual : Str} {st : Stmt} {kwd : List (Str × V)} (h : fs[i]? = some ⟨at_, x, qual, defArgs st, defBody st, defScope st, [], kwd⟩) : ∃ fd, Fun K x qual st (at_ K) fd := by
  obtain ⟨fd, oc, od, osl, h1, h2, h3, _, _, h6, a1, a2, a3, a4, a5, a6, a7, a8⟩ := says_fd c i h
  obtain ⟨name, qualname, params, body, scope, globals, closure, defaults, kwdefaults, doc, pm, an, code, ct, bi⟩ := fd
  dsimp only at a1 a2 a3 a4 a5 a6 a7 a8 h6 h3
  have a7' : closure = [] := List.map_eq_nil_iff.mp a7
  subst a1 a2 a3 a4 a5 a6 a7' a8 h6
  exact ⟨_, fun_mk h1 h3 h2⟩
theorem says_funD {fs : List FdO} {ex : Fg → List Bool} {K : Fg} (c : SaysO fs ex K) (i : Nat) {at_ : Fg → Addr} {x qual : Str} {pr : Arguments} {bo : List Stmt} {sc : Scope} {kwd : List (Str × V)} (h : fs[i]? = some ⟨at_, x, qual, pr, bo, sc, [], kwd⟩) : ∃ fd, FunD K x qual pr bo sc [] kwd (at_ K) fd := by
  obtain ⟨fd, oc, od, osl, h1, h2, h3, h4, h5, h6, a1, a2, a3, a4, a5, a6, a7, a8⟩ := says_fd c i h
  obtain ⟨name, qualname, params, body, scope, globals, closure, defaults, kwdefaults, doc, pm, an, code, ct, bi⟩ := fd
  dsimp only at a1 a2 a3 a4 a5 a6 a7 a8 h6 h3 h4 h5
  have a7' : closure = [] := List.map_eq_nil_iff.mp a7
  subst a1 a2 a3 a4 a5 a6 a7' a8 h6
  exact ⟨_, ⟨oc, od, _, _, _, _, _, _, _, _, rfl, h1, h3, h4, h5⟩, h2⟩
/-! addresses and facts by names -/
def paA (K : Fg) (T : String) (q : Addr) : Addr := match PySem.W.recIn K q T with
  | some (.ref f :: _) => f
  | _ => 0
def recB (K : Fg) (T : String) (q : Addr) : Bool := match PySem.W.recIn K q T with
  | some (.ref _ :: _) => true
  | _ => false
theorem recB_ok {K : Fg} {T : String} {q : Addr} (h : recB K T q = true) : ∃ r, PySem.W.recIn K q T = some (.ref (paA K T q) :: r) := by
  unfold recB at h
  unfold paA
  split at h
  · rename_i f r e
    rw [e]; exact ⟨r, rfl⟩
  · cases h
def intB (K : Fg) (x : Str) (i : Int) : Bool := match PySem.W.nsIn K mainGlobals x with
  | some (some (.int j _)) => decide (j = i)
  | _ => false
theorem intB_ok {K : Fg} {x : Str} {i : Int} (h : intB K x i = true) : ∃ t, PySem.W.nsIn K mainGlobals x = some (some (.int i t)) := by
  unfold intB at h
  split at h
  · rename_i j t e
    rw [e, of_decide_eq_true h]; exact ⟨t, rfl⟩
  · cases h
def conB (K : Fg) (C : Addr) (x : Str) (i : Int) : Bool := match PySem.W.findCls K (.ref C) (.type "type") x with
  | some (.val (.int j _)) => decide (j = i)
  | _ => false
theorem conB_ok {K : Fg} {C : Addr} {x : Str} {i : Int} (h : conB K C x i = true) : ∃ t, PySem.W.findCls K (.ref C) (.type "type") x = some (.val (.int i t)) := by
  unfold conB at h
  split at h
  · rename_i j t e
    rw [e, of_decide_eq_true h]; exact ⟨t, rfl⟩
  · cases h
def tup4 (K : Fg) (a : Addr) (i j k l : Int) : Bool := match K.lookup a with
  | some ⟨c, _, .seq xs _, _⟩ => decide (c = .type "tuple") && match xs with
    | ⟨[.int i1 _, .int j1 _, .int k1 _, .int l1 _]⟩ => decide (i1 = i) && (decide (j1 = j) && (decide (k1 = k) && decide (l1 = l)))
    | _ => false
  | _ => false
theorem tup4_ok {K : Fg} {a : Addr} {i j k l : Int} (h : tup4 K a i j k l = true) : ∃ d n s t1 t2 t3 t4, K.lookup a = some ⟨.type "tuple", d, .seq #[.int i t1, .int j t2, .int k t3, .int l t4] n, s⟩ := by
  unfold tup4 at h
  split at h
  · rename_i c d xs n s e
    rw [Bool.and_eq_true_iff] at h
    obtain ⟨h1, h2⟩ := h
    split at h2
    · rename_i i1 t1 j1 t2 k1 t3 l1 t4
      rw [Bool.and_eq_true_iff, Bool.and_eq_true_iff, Bool.and_eq_true_iff] at h2
      rw [e, of_decide_eq_true h1, of_decide_eq_true h2.1, of_decide_eq_true h2.2.1, of_decide_eq_true h2.2.2.1, of_decide_eq_true h2.2.2.2]
      exact ⟨d, n, s, t1, t2, t3, t4, rfl⟩
    · cases h2
  · cases h
/-! a method with super() -/
def ccA (K : Fg) (f : Addr) : Addr := match K.lookup f with
  | some ⟨_, _, .func fd, _⟩ => match fd.closure with
    | (_, c) :: _ => c
    | _ => 0
  | _ => 0
def cellB (K : Fg) (c C : Addr) : Bool := match K.lookup c with
  | some ⟨_, _, .cell (some v), _⟩ => decide (v = .ref C)
  | _ => false
theorem cellB_ok {K : Fg} {c C : Addr} (h : cellB K c C = true) : ∃ (cl : Value) (cld : Option Addr) (csl : Array (Option Value)), K.lookup c = some ⟨cl, cld, .cell (some (.ref C)), csl⟩ := by
  unfold cellB at h
  split at h
  · rename_i cl d v s e
    rw [e, of_decide_eq_true h]; exact ⟨_, _, _, rfl⟩
  · cases h
def cdA (K : Fg) (f : Addr) : Addr := match K.lookup f with
  | some ⟨_, _, .func fd, _⟩ => match fd.code with
    | .ref c => c
    | _ => 0
  | _ => 0
def strAt (o : Option Value) (file : Str) : Bool := match o with
  | some (.str z _) => file == z
  | _ => false
def cdB (K : Fg) (f : Addr) (file : Str) : Bool := match K.lookup f with
  | some ⟨_, _, .func fd, _⟩ => match fd.code with
    | .ref c => match K.lookup c with
      | some ⟨_, _, .fields vs, _⟩ => strAt vs[2]? file
      | _ => false
    | _ => false
  | _ => false
theorem strAt_ok {o : Option Value} {file : Str} (h : strAt o file = true) : ∃ (z : Str) (tf : Tok), o = some (.str z tf) ∧ (file == z) = true := by
  unfold strAt at h
  split at h
  · rename_i z tf
    exact ⟨z, tf, rfl, h⟩
  · cases h
theorem cdB_ok {K : Fg} {f : Addr} {file : Str} (h : cdB K f file = true) : (∃ oc od fd osl, K.lookup f = some ⟨oc, od, .func fd, osl⟩ ∧ fd.code = .ref (cdA K f)) ∧ ∃ (ccl : Value) (cdd : Option Addr) (vs : Array Value) (ccs : Array (Option Value)) (z : Str) (tf : Tok), K.lookup (cdA K f) = some ⟨ccl, cdd, .fields vs, ccs⟩ ∧ vs[2]? = some (.str z tf) ∧ (file == z) = true := by
  unfold cdB at h
  split at h
  · rename_i oc od fd osl e
    split at h
    · rename_i c ec
      have ea : cdA K f = c := by
        unfold cdA
        rw [e]
        dsimp only
        rw [ec]
      rw [ea]
      split at h
      · rename_i ccl cdd vs ccs e2
        obtain ⟨z, tf, e3, e4⟩ := strAt_ok h
        exact ⟨⟨oc, od, fd, osl, e, ec⟩, ccl, cdd, vs, ccs, z, tf, e2, e3, e4⟩
      · cases h
    · cases h
  · cases h
theorem says_sup {fs : List FdO} {ex : Fg → List Bool} {K : Fg} (c : SaysO fs ex K) (i : Nat) {at_ : Fg → Addr} {x qual : Str} {st : Stmt} (h : fs[i]? = some ⟨at_, x, qual, defArgs st, defBody st, defScope st, ["__class__"], []⟩) {file : Str} (hc : cdB K (at_ K) file = true) :
    ∃ kV doc pm an ct, (∃ oc od osl, K.lookup (at_ K) = some ⟨oc, od, .func (PySem.W.fnX x qual (defArgs st) (defBody st) (defScope st) [("__class__", ccA K (at_ K))] .none kV doc pm an (.ref (cdA K (at_ K))) ct), osl⟩) ∧ PySem.W.keepIn K (.ref (at_ K)) = true ∧ PySem.W.codeIn K (.ref (cdA K (at_ K))) qual = true := by
  obtain ⟨fd, oc, od, osl, h1, h2, h3, h4, h5, h6, a1, a2, a3, a4, a5, a6, a7, a8⟩ := says_fd c i h
  obtain ⟨⟨oc', od', fd', osl', l1, l2⟩, _⟩ := cdB_ok hc
  dsimp only at h1
  rw [h1] at l1
  cases l1
  obtain ⟨name, qualname, params, body, scope, globals, closure, defaults, kwdefaults, doc, pm, an, code, ct, bi⟩ := fd
  dsimp only at a1 a2 a3 a4 a5 a6 a7 a8 h6 h3 h4 h5 l2
  obtain ⟨cc, rfl⟩ : ∃ cc, closure = [(("__class__" : Str), cc)] := by
    match closure, a7 with
    | [(n, cc)], a7 =>
      have : n = ("__class__" : Str) := by injection a7
      exact ⟨cc, by rw [this]⟩
  subst a1 a2 a3 a4 a5 a6 a8 h6 l2
  have ec : ccA K (at_ K) = cc := by
    unfold ccA
    rw [h1]
  rw [ec]
  exact ⟨_, _, _, _, _, ⟨_, _, _, h1⟩, h2, h3⟩
/-! a def's row as the ends want it -/
theorem says_lk {fs : List FdO} {ex : Fg → List Bool} {K : Fg} (c : SaysO fs ex K) (i : Nat) {at_ : Fg → Addr} {x qual : Str} {st : Stmt} {kwd : List (Str × V)} (h : fs[i]? = some ⟨at_, x, qual, defArgs st, defBody st, defScope st, [], kwd⟩) :
    ∃ oc od sl kV dc pm an cd ct, K.lookup (at_ K) = some ⟨oc, od, .func (PySem.W.fnOf x qual (defArgs st) (defBody st) (defScope st) .none kV dc pm an cd ct), sl⟩ ∧ PySem.W.codeIn K cd qual = true ∧ PySem.W.keepIn K (.ref (at_ K)) = true := by
  obtain ⟨fd, F⟩ := says_fun c i h
  obtain ⟨oc, od, kV, dc, pm, an, cd, ct, sl, e, l, q⟩ := F.ex
  subst e
  exact ⟨oc, od, sl, kV, dc, pm, an, cd, ct, l, q, F.kp⟩
theorem says_lkw {fs : List FdO} {ex : Fg → List Bool} {K : Fg} (c : SaysO fs ex K) (i : Nat) {at_ : Fg → Addr} {x qual n : Str} {st : Stmt} {z : Int} (h : fs[i]? = some ⟨at_, x, qual, defArgs st, defBody st, defScope st, [], [(n, .int z)]⟩) :
    ∃ oc od sl dI dc pm an cd ct t, K.lookup (at_ K) = some ⟨oc, od, .func (PySem.W.fnOf x qual (defArgs st) (defBody st) (defScope st) .none (.ref dI) dc pm an cd ct), sl⟩ ∧ PySem.W.codeIn K cd qual = true ∧ PySem.W.keepIn K (.ref (at_ K)) = true ∧ PySem.W.nsIn K dI n = some (some (.int z t)) := by
  obtain ⟨fd, F⟩ := says_funD c i h
  obtain ⟨oc, od, dV, kV, dc, pm, an, cd, ct, sl, e, l, q, hD, hK⟩ := F.ex
  subst e
  rcases hD with ⟨_, rfl⟩ | ⟨e, _⟩
  · rcases hK with e | ⟨D, rfl, hq⟩
    · cases e
    · obtain ⟨u, hu, ru⟩ := hq _ (List.mem_singleton.mpr rfl)
      obtain ⟨t, rfl⟩ := ru
      exact ⟨oc, od, sl, D, dc, pm, an, cd, ct, t, l, q, F.kp, hu⟩
  · exact absurd rfl e
end Tw
namespace Tw
open PySem PySem.Spec PyProof.Rows L2
/-! ### self.__class__.__name__ in an own exception -/
section
open PySem.W PySem.HandSPX
variable {prog : Program} {w : World} {A : Around} {E : Value → Shared → Prop} {s : Shared} {K : PySem.W.Frag} {x C : Addr} {ox : Obj} {od : Option Obj} {expr : Bool} {Q : Value → Shared → Prop}
theorem err_class {gt : Option Value} (X : K.In s.heap) (I : PySem.W.InstAt s.heap x ox C od) (hga : findIn K (.ref C) "__getattribute__" = some (some (.builtin "BaseException.__getattribute__"))) (hgt : findIn K (.ref C) "__getattr__" = some gt)
    (hsub : subIn K (.ref C) (.type "BaseException") = some true) (hf : findObj K C od "__class__" = some (.bind (.builtin "getset_descriptor.__get__") (.builtin "object.__class__"))) (hm : mroIn K C (.type "object") = some true)
    (h : Q (.ref C) { s with toks := s.toks + 1 }) : wpAny (model prog w) A (getAttr (.ref x) "__class__" expr) Q E s := by
  obtain ⟨hp, g, d, t, os⟩ := s
  have T0 := I.type (M := model prog w)
  have T1 := looks_findIn (M := model prog w) X hga
  have T2 := looks_findIn (M := model prog w) X hgt
  have T3 := looks_find (M := model prog w) X I hf
  have isB : Looks (model prog w) hp (isInstance (.ref x) (.type "BaseException")) true := T0.andThen (looks_subIn X hsub)
  have n0 : (expr && onTheHeap (Value.builtin "BaseException.__getattribute__")) = false := by cases expr <;> rfl
  have n2 : (Value.builtin "BaseException.__getattribute__" == Value.builtin "object.__getattribute__") = false := by decide +kernel
  have n1 : (onTheHeap (Value.ref C) && Value.builtin "BaseException.__getattribute__" == Value.builtin "object.__getattribute__") = false := by rw [n2]; rfl
  unfold getAttr getAttrBy
  refine wpAny_bind (wpAny_mkText (wpAny_holding (wpAny_bind (T0.at (wpAny_bind (T1.at ?_))))))
  show wpAny _ _ (if (onTheHeap (Value.ref C) && Value.builtin "BaseException.__getattribute__" == Value.builtin "object.__getattribute__") = true then _ else _) _ _ _
  rw [n1, if_neg Bool.false_ne_true]
  unfold getAttrByItsOwn hookBefore
  refine wpAny_bind ?_
  rw [if_pos (show onTheHeap (Value.ref C) = true from rfl)]
  refine T2.at ?_
  refine wpAny_bind (wpAny_attempt (wpAny_holding ?_))
  unfold callGetattribute
  rw [n0, if_neg Bool.false_ne_true]
  unfold boundAndCalled
  rw [PySem.F.excAttr_ValueError.ga.bind (.ref x)]
  refine wpAny_bind (wpAny_pure ?_)
  show wpAny _ _ (call (.builtin "BaseException.__getattribute__") [.ref x, .str "__class__" t]) _ _ _
  refine wpAny_call (codeAny_call_builtin PySem.F.excAttr_ValueError.ga.plain PySem.F.entry_bexc_ga ?_)
  refine @PySem.W.check_slot (model prog w) _ _ ⟨hp, g, d, t + 1, os⟩ "BaseException.__getattribute__" "BaseException" "__getattribute__" (.ref x) [.str "__class__" t] [] _ (by decide +kernel) (by decide +kernel) isB (PySem.F.args_bexc_ga (.ref x) (.str "__class__" t)) ?_
  unfold Builtin.«object.__getattribute__»
  refine wpAny_bind (wpAny_of_eq (a := ((Value.ref x : Value), [Value.str "__class__" t])) (by first | rfl | (simp only [slotArgs]; rfl)) ?_)
  refine wpAny_bind (wpAny_pure (wpAny_bind (T0.at (wpAny_bind (T3.at ?_)))))
  refine wpAny_bind (wpAny_holding (wpAny_call (class_get (s := ⟨hp, g, d, t + 1, os⟩) (ox := ox) (od := od) X I hm ?_)))
  refine wpAny_pure ?_
  show wpAny _ _ (handedOut (.ref C)) _ _ _
  rw [handedOut_of (show handedIn (.ref C) = true from rfl)]
  first | exact wpAny_pure h | exact wpAny_pure (wpAny_pure h)
end
section
open PySem.W PySem.Calls Builtin Builtin.ObjectAttr Builtin.Getset_descriptor
variable {prog : Program} {w : World} {A : Around} {E : Value → Shared → Prop} {s : Shared} {K : PySem.W.Frag} {R : Result → Shared → Prop} {C : Addr} {o : Obj} {nm : Str} {tn : Tok}
/-- type.__name__ of an own class whose name was kept when it was made -/
theorem own_name_get {tp : Value} (ho : s.heap.get? C = some o) (hc : o.cls = .type "type") (hs : o.slots[2]? = some (some (.str nm tn))) (hi : Looks (model prog w) s.heap (isInstance (.ref C) (.type "type")) true)
    (h : R (.ok (.ret (.str nm tn))) s) :
    codeAny (model prog w) A (.call (.builtin "getset_descriptor.__get__") ⟨[.builtin "type.__name__", .ref C, tp], []⟩) R s := by
  obtain ⟨hh, g, dr, t, os⟩ := s
  refine codeAny_call_builtin KF.slot_gs.plain KF.entry_gs (KF.slot_gs.check _ _ _ _ _ _ _ _ ktyn_type (KF.args_gs _ _ _) ?_)
  unfold Builtin.«getset_descriptor.__get__» descrGet
  rw [PySem.W.dga_obj]
  refine wpAny_bind (wpAny_pure ?_)
  unfold descrGetter descrCheckInstance descrNameAndClass
  simp only [ktyn_owner]
  repeat lk
  refine ⟨Code.quiet_builtin _ (by decide +kernel), codeAny_builtin ktyn_entry ?_⟩
  unfold Builtin.«type.__name__»
  show wpAny _ _ (keptObject (.ref C) 2 "__name__" _) _ _ _
  unfold keptObject PySem.slotAt
  dsimp only at ho
  refine wpAny_bind (wpAny_bind (wpAny_loadPart ho (wpAny_pure ?_)))
  rw [hs]
  exact wpAny_pure h
theorem own_name {expr : Bool} {Q : Value → Shared → Prop} (X : K.In s.heap) (hl : K.lookup C = some o) (hc : o.cls = .type "type") (hs : o.slots[2]? = some (some (.str nm tn))) (hC : PySem.W.nsIn K cStatics "thirdparty.any" = some none)
    (hty : PySem.W.typeIn K (.ref C) = some (.type "type")) (e : findCls K (.ref C) (.type "type") "__name__" = some (.get (.builtin "getset_descriptor.__get__") (.builtin "type.__name__") (.ref C) (.type "type")))
    (h : ∀ u, Q (.str nm tn) { s with toks := u }) : wpAny (model prog w) A (getAttr (.ref C) "__name__" expr) Q E s := by
  have T0 : Looks (model prog w) s.heap (typeOf (.ref C)) (.type "type") := looks_typeIn X hty
  have TI : Looks (model prog w) s.heap (isInstance (.ref C) (.type "type")) true := T0.andThen (looks_subIn X (show subIn K (.type "type") (.type "type") = some true by rfl))
  have TO : Looks (model prog w) s.heap (opaqueClassAbove (.ref C)) none := looks_opaque X hC
  refine cls_open X TO T0 type_tga (looks_hook X (r := none) (by rfl)) (by rfl) e ?_
  show wpAny _ _ (do ret (← holding [Value.builtin "type.__name__"] (call (.builtin "getset_descriptor.__get__") [.builtin "type.__name__", .ref C, .type "type"]))) _ _ _
  refine wpAny_bind (wpAny_holding (wpAny_call (own_name_get (s := { s with toks := s.toks + 1 }) (X _ _ hl) hc hs TI ?_)))
  exact wpAny_pure (handed_on rfl (h _))
end
/-- what the written part says of an own exception class whose instances tell their class's name -/
structure ErrN (K : PySem.W.Frag) (C : Addr) (nm : Str) : Prop where
  ec : ExcC K C
  ob : ∃ (o : Obj) (t : Tok), K.lookup C = some o ∧ o.cls = .type "type" ∧ o.slots[2]? = some (some (.str nm t))
  op : PySem.W.nsIn K cStatics "thirdparty.any" = some none
  ty : PySem.W.typeIn K (.ref C) = some (.type "type")
  fc : PySem.W.findCls K (.ref C) (.type "type") "__name__" = some (.get (.builtin "getset_descriptor.__get__") (.builtin "type.__name__") (.ref C) (.type "type"))
/-- .. of one that has no dict yet -/
def tErrN0 (K : PySem.W.Frag) (te : TE) : TE := fun σ H Q => te σ H fun x H1 => ∃ (a C : Addr) (nm : Str), x = .ref a ∧ H1 a = some (exo a C none) ∧ ErrN K C nm ∧ Q (.str nm) H1
theorem pe_errN0 {X : Cx} {e : Expr} {te : TE} {p1 p2 : Pos} (he : PE X e te) (hb : attributeBase e "__class__" X.env (eval e X.env) = eval e X.env := by rfl)
    (hb2 : attributeBase (.Attribute e "__class__" p1) "__name__" X.env (eval (.Attribute e "__class__" p1) X.env) = eval (.Attribute e "__class__" p1) X.env := by rfl) :
    PE X (.Attribute (.Attribute e "__class__" p1) "__name__" p2) (tErrN0 X.K te) := by
  refine ⟨fun pins s σ H Q I h => ?_⟩
  refine attr_of hb2 (attr_of hb (thn (he.run pins s σ H _ I h) fun u s1 hh => ?_))
  obtain ⟨x, H1, I1, rx, a, C, nm, ex, ea, N, q⟩ := hh
  subst ex
  obtain rfl : u = Value.ref a := rx
  obtain ⟨t1, ho⟩ := exo_at I1.hok ea
  obtain ⟨o, t, hl, hc, hs⟩ := N.ob
  have J : PySem.W.InstAt s1.heap a _ C none := ⟨ho, rfl, rfl, trivial⟩
  have ff : PySem.W.findObj X.K C none "__class__" = some (.bind (.builtin "getset_descriptor.__get__") (.builtin "object.__class__")) :=
    PySem.W.findObj_dataN (by obtain ⟨cd, hc, _⟩ := PySem.W.any_some N.ec.hd; rw [hc]; rfl) N.ec.ha N.ec.hn N.ec.ht
  refine err_class I1.kIn J N.ec.hg N.ec.hk N.ec.hs ff N.ec.hm ?_
  exact own_name (I1.tok _).kIn hl hc hs N.op N.ty N.fc fun u => ⟨.str nm, H1, I1.tok _, ⟨t, rfl⟩, q⟩
end Tw
namespace Tw
open PySem PySem.Spec PyProof.Rows L2
/-! ### {x!r} of nested data: some text of a bounded length, whatever is under way -/
section
open Builtin Builtin.List
/-- repr(x) is some text of at most n signs; d: how deep it goes; h₀: what must stand -/
def RepN (prog : Program) (w : World) (h₀ : Heap) (d n : Nat) (x : Value) : Prop :=
  ∀ (base : Nat), base + n ≤ sizeLine → ∀ (A : Around) (E : Value → Shared → Prop) (s : Shared) (Q : Str → Shared → Prop), A.units + d < cLine → (∀ b o, h₀.get? b = some o → s.heap.get? b = some o) →
    (∀ (m : Str) (h' : Heap) (tk : Nat), m.length ≤ n → (∀ b o, s.heap.get? b = some o → h'.get? b = some o) → Q m { s with heap := h', toks := tk }) → wpAny (model prog w) A (pyReprUnder base x) Q E s
theorem RepN.mono {prog : Program} {w : World} {h₀ : Heap} {d d' n n' : Nat} {x : Value} (h : RepN prog w h₀ d n x) (hd : d ≤ d') (hn : n ≤ n') : RepN prog w h₀ d' n' x :=
  fun base hb A E s Q hu k hQ => h base (by omega) A E s Q (by omega) k fun m h' tk hm => hQ m h' tk (by omega)
/-- the signs of the items with their gaps -/
def cost (ns : List Nat) : Nat := (ns.map fun n => n + 2).sum
theorem cost_cons (n : Nat) (ns : List Nat) : cost (n :: ns) = n + 2 + cost ns := by simp [cost]
theorem cost_take_succ {ns : List Nat} {i n : Nat} (h : ns[i]? = some n) : cost (ns.take (i + 1)) = cost (ns.take i) + (n + 2) := by
  unfold cost
  rw [List.take_add_one, h, List.map_append, List.sum_append]
  simp
theorem cost_take_le (ns : List Nat) (i : Nat) : cost (ns.take i) ≤ cost ns := by
  have e : cost ns = cost (ns.take i) + cost (ns.drop i) := by
    unfold cost
    rw [← List.sum_append, ← List.map_append, List.take_append_drop]
  omega
theorem two_le_cost (ns : List Nat) : 2 * ns.length ≤ cost ns := by
  induction ns with
  | nil => exact Nat.zero_le _
  | cons n ns ih =>
    rw [cost_cons, List.length_cons]
    omega
theorem listText_le : ∀ ts : List Str, (listText ts).length ≤ piled ts + 2
  | [] => by decide +kernel
  | t :: r => by
    have h := textFrom_length_pos r 1 (("[" : Str) ++ (if (0 : Nat) > 0 then ", " else "" : String) ++ t) (Nat.succ_pos 0)
    have e : ((("[" : Str) ++ (if (0 : Nat) > 0 then ", " else "" : String) ++ t)).length = 1 + t.length := by
      rw [strLen_append, strLen_append]; rfl
    have hX : (listText (t :: r)).length = (textFrom 0 "[" (t :: r)).length + 1 := by
      show (textFrom 0 "[" (t :: r) ++ "]").length = _
      rw [strLen_append]; rfl
    have hY : (textFrom 0 "[" (t :: r)).length = (textFrom 1 (("[" : Str) ++ (if (0 : Nat) > 0 then ", " else "" : String) ++ t) r).length := rfl
    rw [hX, hY, h, e, piled_cons]; omega
theorem piled_snoc (ts : List Str) (t : Str) : piled (ts ++ [t]) = piled ts + (t.length + 2) := by
  rw [piled_append, piled_cons, piled_nil]
section
variable {prog : Program} {w : World} {A : Around} {R : Result → Shared → Prop}
theorem rep_loop {a P : Addr} (hne : a ≠ P) {items : Array Value} {ns : List Nat} {h₀ : Heap} {d base : Nat} (hu : A.units + (d + 1) < cLine) (hPf : h₀.get? P = none) (hlen : ns.length = items.size)
    (hT : ∀ (i : Nat) (x : Value), items[i]? = some x → ∃ n, ns[i]? = some n ∧ RepN prog w h₀ d n x) (hsz : base + (cost ns + 2) ≤ sizeLine) :
    ∀ (k i : Nat) (s : Shared) (oa : Obj) (na : Nat) (acc : Array Value) (c : Nat) (done : List (Str × Tok)), items.size - i = k → i ≤ items.size → (∀ b o, h₀.get? b = some o → s.heap.get? b = some o) →
    s.heap.get? a = some oa → oa.data = .seq items na →
    s.heap.get? P = some { cls := .type "list", dict := none, data := .seq acc c, slots := #[] } → acc.toList = strValues done → done.length = i → piled (done.map (·.1)) ≤ cost (ns.take i) →
    (∀ m h' u tk, m.length ≤ cost ns + 2 → (∀ b o, b ≠ P → s.heap.get? b = some o → h'.get? b = some o) → R (.ok (.ret (.str m u))) { s with heap := h', toks := tk }) →
    codeAny (model prog w) A (.builtin "list.__repr__.loop" ⟨[.ref a, rawInt i, .ref P, rawInt ((base + piled (done.map (·.1)) : Nat) : Int)], []⟩) R s := by
  have hl2 := two_le_cost ns
  intro k
  induction k with
  | zero =>
    intro i s oa na acc c done hk hi hk0 ha hda hP hacc hdl hdone hR
    have hin : i = items.size := by omega
    refine codeAny_builtin F.entry_list_repr_loop ?_
    show wpAny _ _ («list.__repr__.loop» ⟨[.ref a, .int i 0, .ref P, .int ((base + piled (done.map (·.1)) : Nat) : Int) 0], []⟩) _ _ s
    rw [repr_loop_tree]
    refine wpAny_bind (wpAny_listItems ha hda ?_)
    have hnone : items[(i : Int).toNat]? = none := by simp [hin]
    simp only [hnone]
    unfold reprEnd
    refine wpAny_bind (wpAny_listItems hP rfl ?_)
    rw [hacc, repr_fold]
    refine wpAny_bind (wpAny_pure ?_)
    have hc : cost (ns.take i) ≤ cost ns := cost_take_le ns i
    have ht := listText_le (done.map (·.1))
    refine wpAny_bind (wpAny_mkStr (wpAny_pure ?_) (show (listText (done.map (·.1))).length ≤ sizeLine by omega))
    exact hR (listText (done.map (·.1))) s.heap _ _ (by omega) (fun _ _ _ e => e)
  | succ k ih =>
    intro i s oa na acc c done hk hi hk0 ha hda hP hacc hdl hdone hR
    have hlt : i < items.size := by omega
    obtain ⟨n, hn, hrep⟩ := hT i items[i] (by simp [hlt])
    have hp1 := cost_take_succ hn
    have hp2 := cost_take_le ns (i + 1)
    refine codeAny_builtin F.entry_list_repr_loop ?_
    show wpAny _ _ («list.__repr__.loop» ⟨[.ref a, .int i 0, .ref P, .int ((base + piled (done.map (·.1)) : Nat) : Int) 0], []⟩) _ _ s
    rw [repr_loop_tree]
    refine wpAny_bind (wpAny_listItems ha hda ?_)
    have hsome : items[(i : Int).toNat]? = some items[i] := by simp [hlt]
    simp only [hsome]
    rw [Int.toNat_natCast]
    refine wpAny_bind (wpAny_holding (hrep (base + piled (done.map (·.1)) + 1) (by omega) _ _ _ _ (by rw [units_under_list_loop]; omega) hk0 fun t h' tk htl hkp => ?_))
    refine wpAny_bind (wpAny_mkStr ?_ (by omega))
    refine wpAny_bind ?_
    show wpAny _ _ (updateSeq P _) _ _ _
    have hasz : acc.size ≤ sizeLine := by
      have e1 : acc.toList.length = acc.size := by simp
      have e2 : (strValues done).length = done.length := by simp [strValues]
      rw [hacc] at e1; omega
    refine wpAny_updateSeq (hkp _ _ hP) rfl (wpAny_pure ⟨F.quiet_list_repr_loop _, ?_⟩) hasz
    have e1 : ((i : Int) + 1) = ((i + 1 : Nat) : Int) := by omega
    have e3 : (done ++ [(t, tk)]).map (·.1) = done.map (·.1) ++ [t] := by simp
    have e2 : base + piled (done.map (·.1)) + (t.length + 2) = base + piled ((done ++ [(t, tk)]).map (·.1)) := by rw [e3, piled_snoc]; omega
    rw [e1, e2]
    refine ih (i + 1) _ oa na (acc.push (.str t tk)) _ (done ++ [(t, tk)]) (by omega) hlt (fun b o e => (Heap.get?_update_other _ _ (fun h : P = b => by rw [← h, hPf] at e; cases e)).trans (hkp _ _ (hk0 _ _ e))) ((Heap.get?_update_other _ _ (fun h : P = a => hne h.symm)).trans (hkp _ _ ha)) hda
      (Heap.get?_update_self _ (hkp _ _ hP) rfl) (by simp [hacc, strValues]) (by simp [hdl]) (by rw [e3, piled_snoc]; omega) fun m h'' u tk' hm hh => ?_
    exact hR m h'' u tk' hm fun b o hb e => hh b o hb ((Heap.get?_update_other _ _ (fun h : P = b => hb h.symm)).trans (hkp _ _ e))
theorem rep_listAt {h₀ : Heap} {d : Nat} {a : Addr} {oa : Obj} {items : Array Value} {na : Nat} {ns : List Nat} {s : Shared} {base : Nat}
    (ha : h₀.get? a = some oa) (hda : oa.data = .seq items na) (hlen : ns.length = items.size) (hT : ∀ (i : Nat) (y : Value), items[i]? = some y → ∃ n, ns[i]? = some n ∧ RepN prog w h₀ d n y)
    (hu : A.units + (d + 1) < cLine) (hk0 : ∀ b o, h₀.get? b = some o → s.heap.get? b = some o) (hsz : base + (cost ns + 5) ≤ sizeLine)
    (hR : ∀ m h' u tk, m.length ≤ cost ns + 5 → (∀ b o, s.heap.get? b = some o → h'.get? b = some o) → R (.ok (.ret (.str m u))) { s with heap := h', toks := tk }) :
    wpAny (model prog w) A.in1 (Builtin.listReprAt base ⟨[.ref a], []⟩) (fun fin s' => match fin with | .done f => R (.ok f) s' | .again c' => c'.quiet = true ∧ codeAny (model prog w) A c' R s') (fun e s' => R (.error e) s') s := by
  have hPf : h₀.get? s.heap.objs.size = none := by
    cases e : h₀.get? s.heap.objs.size with
    | none => rfl
    | some o => exact absurd (Heap.lt_size (hk0 _ _ e)) (Nat.lt_irrefl _)
  unfold Builtin.listReprAt
  refine wpAny_bind (wpAny_of_eq (a := ((Value.ref a : Value), ([] : List Value))) (by first | rfl | (simp only [slotArgs]; rfl)) ?_)
  refine wpAny_bind (wpAny_listItems (hk0 _ _ ha) hda ?_)
  by_cases he : items.isEmpty = true
  · rw [if_pos he]
    refine wpAny_bind (wpAny_rule (wpAny_bind (wpAny_mkStr (wpAny_pure ?_) (by decide +kernel))))
    exact hR "[]" s.heap _ _ (Nat.le_trans (show ("[]" : Str).length ≤ 5 by decide +kernel) (Nat.le_add_left _ _)) (fun _ _ e => e)
  · rw [if_neg he]
    refine wpAny_bind (wpAny_stack_any fun st => ?_)
    dsimp only
    split
    · refine wpAny_bind (wpAny_rule (wpAny_bind (wpAny_mkStr (wpAny_pure ?_) (by decide +kernel))))
      exact hR "[...]" s.heap _ _ (Nat.le_trans (show ("[...]" : Str).length ≤ 5 by decide +kernel) (Nat.le_add_left _ _)) (fun _ _ e => e)
    · refine wpAny_bind (m := newList []) (wpAny_newObj_type ?_)
      refine wpAny_pure ⟨F.quiet_list_repr_loop _, ?_⟩
      refine rep_loop (P := s.heap.objs.size) (base := base) (Nat.ne_of_lt (Heap.lt_size (hk0 _ _ ha))) hu hPf hlen hT (by omega) _ 0 _ oa na #[] _ [] rfl (Nat.zero_le _)
        (fun b o e => Heap.get?_push_of_some _ (hk0 _ _ e)) (Heap.get?_push_of_some _ (hk0 _ _ ha)) hda (Heap.get?_push_size _ rfl) rfl rfl (by simp [piled, cost]) fun m h' u tk hm hk => ?_
      exact hR m h' u tk (by omega) fun b o e => hk b o (Nat.ne_of_lt (Heap.lt_size e)) (Heap.get?_push_of_some _ e)
/-! a tuple -/
theorem rep_tupFold {E : Value → Shared → Prop} {h₀ : Heap} {d : Nat} (hu : A.units + d < cLine) : ∀ (l : List Value) (ns : List Nat) (acc : Array Str) (n : Nat) (s : Shared) (Q : (Array Str × Nat) → Shared → Prop), ns.length = l.length → (∀ (i : Nat) (y : Value), l[i]? = some y → ∃ n, ns[i]? = some n ∧ RepN prog w h₀ d n y) →
    n + cost ns ≤ sizeLine → (∀ b o, h₀.get? b = some o → s.heap.get? b = some o) → (∀ (ts : List Str) (h' : Heap) (tk : Nat), ts.length = l.length → piled ts ≤ cost ns → (∀ b o, s.heap.get? b = some o → h'.get? b = some o) → Q ⟨acc ++ ts.toArray, n + piled ts⟩ { s with heap := h', toks := tk }) →
    wpAny (model prog w) A (forIn l (⟨acc, n⟩ : (Array Str × Nat)) tupBody) Q E s := by
  intro l
  induction l with
  | nil =>
    intro ns acc n s Q hl hT _ _ h
    have h0 := h [] s.heap s.toks rfl (Nat.zero_le _) fun _ _ e => e
    simp only [List.forIn_nil]
    exact wpAny_pure (by simpa [piled] using h0)
  | cons x l ih =>
    intro ns acc n s Q hl hT hn hk0 h
    cases ns with
    | nil => cases hl
    | cons n1 ns =>
      obtain ⟨n1', e1, hx⟩ := hT 0 x rfl
      obtain rfl : n1 = n1' := Option.some.inj e1
      rw [cost_cons] at hn
      rw [List.forIn_cons]
      refine wpAny_bind (wpAny_bind (hx (n + 1) (by omega) _ _ _ _ hu hk0 fun t h' tk ht hkp => wpAny_pure ?_))
      refine ih ns (acc.push t) (n + (t.length + 2)) _ Q (by simpa using hl) (fun i y hi => hT (i + 1) y hi) (by omega) (fun b o e => hkp _ _ (hk0 _ _ e)) fun ts h'' tk' hts hpt hk2 => ?_
      have h1 := h (t :: ts) h'' tk' (by simp [hts]) (by rw [piled_cons, cost_cons]; omega) fun b o e => hk2 _ _ (hkp _ _ e)
      have e : n + piled (t :: ts) = n + (t.length + 2) + piled ts := by rw [piled_cons]; omega
      rw [e] at h1
      simpa using h1
theorem rep_tupAt {E : Value → Shared → Prop} {h₀ : Heap} {d : Nat} {a : Addr} {o : Obj} {items : Array Value} {n : Nat} {ns : List Nat} {s : Shared} {base : Nat} {Q : Fin → Shared → Prop}
    (ha : h₀.get? a = some o) (hd : o.data = .seq items n) (hlen : ns.length = items.size) (hT : ∀ (i : Nat) (y : Value), items[i]? = some y → ∃ n, ns[i]? = some n ∧ RepN prog w h₀ d n y)
    (hu : A.units + d < cLine) (hk0 : ∀ b o, h₀.get? b = some o → s.heap.get? b = some o) (hsz : base + (cost ns + 5) ≤ sizeLine)
    (hQ : ∀ m h' u tk, m.length ≤ cost ns + 5 → (∀ b o, s.heap.get? b = some o → h'.get? b = some o) → Q (.done (.ret (.str m u))) { s with heap := h', toks := tk }) :
    wpAny (model prog w) A (Builtin.tupleReprAt base ⟨[.ref a], []⟩) Q E s := by
  rw [tuple_repr_tree]
  refine wpAny_bind (fmt_underWay fun b => ?_)
  cases b with
  | true =>
    refine PySem.W.KFB.if_so rfl ?_
    refine wpAny_bind (wpAny_rule (wpAny_bind (wpAny_mkStr (wpAny_pure ?_) (by decide +kernel))))
    exact hQ "(...)" s.heap _ _ (Nat.le_trans fmt_way (Nat.le_add_left _ _)) (fun _ _ e => e)
  | false =>
    refine PySem.W.KFB.if_not rfl ?_
    unfold tupleReprRest Builtin.Tuple.tupleItemsOf
    refine wpAny_bind (wpAny_bind (wpAny_seqItems (hk0 _ _ ha) hd (wpAny_pure ?_)))
    rw [← Array.forIn_toList]
    refine wpAny_bind (rep_tupFold hu _ ns _ _ _ _ (by simpa using hlen) (fun i y hi => hT i y (by simpa using hi)) (by omega) hk0 fun ts h' tk hts hpt hkp => ?_)
    have hlen2 : ts.length = items.size := by simpa using hts
    have htx := fmt_text ts
    refine wpAny_bind (wpAny_mkStr (wpAny_pure ?_) (by
      have z : (tupleText ts).length ≤ sizeLine := by omega
      simpa [tupleText, hlen2] using z))
    have h1 := hQ (tupleText ts) h' tk (tk + 1) (by omega) hkp
    simpa [tupleText, hlen2] using h1
end
section
variable {prog : Program} {w : World} {A : Around} {E : Value → Shared → Prop} {s : Shared}
/-- repr of a list, of a tuple, as an item and at the top -/
theorem RepN.list {h₀ : Heap} {d : Nat} {a : Addr} {oa : Obj} {items : Array Value} {na : Nat} {ns : List Nat} (ha : h₀.get? a = some oa) (hc : oa.cls = .type "list") (hda : oa.data = .seq items na) (hlen : ns.length = items.size)
    (hT : ∀ (i : Nat) (y : Value), items[i]? = some y → ∃ n, ns[i]? = some n ∧ RepN prog w h₀ d n y) : RepN prog w h₀ (d + 1) (cost ns + 5) (.ref a) := by
  intro base hb A E s Q hu hk0 hQ
  refine wpAny_pyReprUnder_ref (by omega) (wpAny_pyReprObjUnder_twin (twin := "list.__repr__.under") ⟨oa, hk0 _ _ ha, hc⟩ F.slot_list_repr.toG rfl (by omega) ?_)
  exact call_twin_plain F.plain_list_repr_under F.entry_list_repr_under F.check_list_repr_under ⟨oa, hk0 _ _ ha, hc⟩ F.slot_list_repr.toG (F.args_list_repr_1 _)
    (rep_listAt (R := callEnd _ E) ha hda hlen hT hu hk0 hb fun m h' u tk hm hk => ⟨⟨m, u, rfl⟩, ⟨m, u, rfl, hQ m h' tk hm hk⟩⟩)
theorem RepN.tuple {h₀ : Heap} {d : Nat} {a : Addr} {oa : Obj} {items : Array Value} {na : Nat} {ns : List Nat} (ha : h₀.get? a = some oa) (hc : oa.cls = .type "tuple") (hda : oa.data = .seq items na) (hlen : ns.length = items.size)
    (hT : ∀ (i : Nat) (y : Value), items[i]? = some y → ∃ n, ns[i]? = some n ∧ RepN prog w h₀ d n y) : RepN prog w h₀ (d + 1) (cost ns + 5) (.ref a) := by
  intro base hb A E s Q hu hk0 hQ
  refine wpAny_pyReprUnder_ref (by omega) (wpAny_pyReprObjUnder_twin (twin := "tuple.__repr__.under") ⟨oa, hk0 _ _ ha, hc⟩ F.slot_tuple_repr rfl (by omega) ?_)
  refine call_twin_own (F.quiet_tuple_repr_under _) F.entry_tuple_repr_under F.check_tuple_repr_under ⟨oa, hk0 _ _ ha, hc⟩ F.slot_tuple_repr (F.args_tuple_repr_1 _) (wpOwn_of_wpAny ?_)
  exact rep_tupAt ha hda hlen hT (by rw [units_under_tuple_repr_under]; omega) hk0 hb fun m h' u tk hm hk => ⟨⟨m, u, rfl⟩, ⟨m, u, rfl, hQ m h' tk hm hk⟩⟩
end
end
end Tw
namespace Tw
open PySem PySem.Spec PyProof.Rows L2
/-! ### data that an error may tell: how deep, how many signs -/
def GoodD : Nat → PyData → Nat → Prop
  | _, .none, c => 4 ≤ c
  | _, .bool _, c => 5 ≤ c
  | _, .int i, c => i.natAbs.log2 < 1920 ∧ 1930 ≤ c
  | _, .str x, c => (∀ k ∈ x.cps.toList, k < 16 ^ 8) ∧ 10 * x.length + 2 ≤ c
  | n + 1, .list ds, c => ds.length ≤ 1000 ∧ ∃ cs, cs.length = ds.length ∧ cost cs + 5 ≤ c ∧ ∀ (i : Nat) d k, ds[i]? = some d → cs[i]? = some k → GoodD n d k
  | n + 1, .tuple ds, c => ds.length ≤ 1000 ∧ ∃ cs, cs.length = ds.length ∧ cost cs + 5 ≤ c ∧ ∀ (i : Nat) d k, ds[i]? = some d → cs[i]? = some k → GoodD n d k
  | _, _, _ => False
theorem dpAll_at {K : PySem.W.Frag} {H : Hp} : ∀ {xs : List V} {ds : List PyData}, DpAll K H xs ds → xs.length = ds.length ∧ ∀ (i : Nat) x d, xs[i]? = some x → ds[i]? = some d → Dp K H x d
  | _, _, .nil => ⟨rfl, fun i x d h => by simp at h⟩
  | _, _, .cons h t => by
    obtain ⟨e, f⟩ := dpAll_at t
    refine ⟨by simp [e], fun i x d h1 h2 => ?_⟩
    cases i with
    | zero =>
      simp at h1 h2
      subst h1 h2
      exact h
    | succ i => exact f i x d (by simpa using h1) (by simpa using h2)
section
variable {X : Cx} {pins : List (Addr × Obj)} {σ : L2.St} {H : Hp} {s : Shared}
end
end Tw
namespace Tw
open PySem PySem.Spec PyProof.Rows L2
/-! ### e.f of a caught own error, its class told by the reading -/
/-! ### try: body, except (x1, x2, x3) as n: suite -/
section
variable {X : Cx} {x1 x2 x3 n : Str} {c1 c2 c3 : Value} {i : Nat} {body suite : List Stmt} {b₀ : Stmt} {p1 p2 p3 pt pos pos' : Pos} {xc : Nat} {tb : WX → TS} {ts : Addr → Value → Option Addr → TS} {Wout : WX}
end
end Tw
namespace Tw
open PySem PySem.Spec PyProof.Rows L2
/-! ### data in a heap that grows -/
theorem sqL_same {K : PySem.W.Frag} {H H' : Hp} {a : Addr} {xs : List V} (e : Same H H') (h : SqL K H a xs) : SqL K H' a xs := by
  rcases h with (h | ⟨o, h⟩) | h
  · exact .inl (.inl (e _ _ h))
  · exact .inl (.inr ⟨o, e _ _ h⟩)
  · exact .inr h
mutual
theorem dp_same {K : PySem.W.Frag} {H H' : Hp} (e : Same H H') : ∀ (d : PyData) (v : V), Dp K H v d → Dp K H' v d
  | .none, _, h => by cases h; exact .non
  | .bool b, _, h => by cases h; exact .bl b
  | .int i, _, h => by cases h; exact .int i
  | .str x, _, h => by cases h; exact .str x
  | .list ds, _, h => by
    cases h with
    | lst hs ha => exact .lst (sqL_same e hs) (dpAll_same e ds _ ha)
  | .tuple ds, _, h => by
    cases h with
    | tup hs ha => exact .tup (sqT_same e hs) (dpAll_same e ds _ ha)
theorem dpAll_same {K : PySem.W.Frag} {H H' : Hp} (e : Same H H') : ∀ (ds : List PyData) (vs : List V), DpAll K H vs ds → DpAll K H' vs ds
  | [], _, h => by cases h; exact .nil
  | d :: ds, _, h => by
    cases h with
    | cons h1 h2 => exact .cons (dp_same e d _ h1) (dpAll_same e ds _ h2)
end
theorem dpAll_of {K : PySem.W.Frag} {H : Hp} : ∀ {xs : List V} {ds : List PyData}, xs.length = ds.length → (∀ (i : Nat) x d, xs[i]? = some x → ds[i]? = some d → Dp K H x d) → DpAll K H xs ds
  | [], [], _, _ => .nil
  | [], _ :: _, h, _ => by cases h
  | _ :: _, [], h, _ => by cases h
  | x :: xs, d :: ds, h, f => .cons (f 0 x d rfl rfl) (dpAll_of (by simpa using h) fun i y e h1 h2 => f (i + 1) y e h1 h2)
/-- what is new in H' beside H -/
def newOf (H H' : Hp) : Hp := fun b => if (H b).isSome then none else H' b
theorem newOf_same {H H' : Hp} : Same (newOf H H') H' := fun a o e => by
  unfold newOf at e
  split at e
  · cases e
  · exact e
theorem newOf_at {H H' : Hp} {a : Addr} {o : HO} (n : H a = none) (h : H' a = some o) : newOf H H' a = some o := by
  unfold newOf
  rw [n]
  exact h
theorem newOf_old {H H' : Hp} {a : Addr} {o : HO} (h : newOf H H' a = some o) : H a = none := by
  unfold newOf at h
  split at h
  · cases h
  · rename_i q
    cases e : H a with
    | none => rfl
    | some u => rw [e] at q; simp at q
/-- all but the thing at D -/
def butD (D : Addr) (H : Hp) : Hp := fun b => if b = D then none else H b
theorem goodD_flat {n c : Nat} {d : PyData} {K : PySem.W.Frag} {H : Hp} {v : V} (h : Dp K H v d) (hf : flatV v = true) : ∀ H', Dp K H' v d := fun H' => by
  cases h with
  | non => exact .non
  | bl b => exact .bl b
  | int i => exact .int i
  | str x => exact .str x
  | lst _ _ => cases hf
  | tup _ _ => cases hf
end Tw
namespace Tw
open PySem PySem.Spec PyProof.Rows L2
/-! ### defs that may raise, by name -/
/-- names in a context, whatever is wished of errors -/
theorem Nm.xe {P : Program} {w : World} {K : PySem.W.Frag} {mg : Str → Option Value} {base : Heap} {j : Nat} {X : Cx} {NS WS : List (Str × Nat)} {G : List Str} (h : Nm P w K mg base j X.nox NS WS G) : Nm P w K mg base j X NS WS G := by
  obtain ⟨h1, h2, h3, h4, h5, h6, h7, h8, h9, h10, h11⟩ := h
  exact ⟨h1, h2, h3, h4, h5, h6, h7, h8, h9, h10, h11⟩
structure Dx (P : Program) (w : World) (K : PySem.W.Frag) (mg : Str → Option Value) (base : Heap) (k : Nat) (x : Str) (ps : List Str) (sp : Sp) : Prop where
  ex : ∃ f fd, mg x = some (.ref f) ∧ PySem.W.keepIn K (.ref f) = true ∧ Binds K fd ps [] ∧ FnOk P w K mg base (L2.CX P w) k f fd ps sp
def tDx (sp : Sp) (E : XK) (t : TA) : TE := fun σ H Q => t σ H fun vs H1 => sp vs H1 Q E
section
variable {P : Program} {w : World} {K : PySem.W.Frag} {mg : Str → Option Value} {base : Heap} {j k : Nat} {X : Cx} {NS WS : List (Str × Nat)} {G : List Str} {x : Str} {ps : List Str} {sp : Sp} {e : Expr} {es : List Expr} {t : TA} {p pos : Pos} {E : XK} {W : WX}
theorem n_dX (h : Nm P w K mg base j X NS WS G) (D : Dx P w K mg base k x ps sp) (hk : k ≤ j) (hg : x ∈ G) (tk : Takes X (fun cls d _ H => E cls d H)) (ha : PA X (e :: es) t)
    (he : starEach (e :: es) X.env = (false, eval e X.env) :: starEach es X.env := by rfl) (hpl : (backTo pos (starEach es X.env)).any (·.1) = false := by rfl) :
    PE X (.Call (.Name x p) (e :: es) [] pos) (tDx sp E t) := by
  obtain ⟨h1, h2, h3, h4, h5, hr, _, _, _, _, hgl⟩ := h
  subst h1 h2 h3 h4 h5
  obtain ⟨f, fd, hm, hkp, hb, F⟩ := D.ex
  refine ⟨fun pins s σ H Q I h => ?_⟩
  refine (pe_call F (hr.mono hk) (hgl x hg).1 hm hkp hb .nil (E := E) (passes_call tk fun _ _ _ _ z => z) ha (hgl x hg).2.1 he hpl).run pins s σ H Q I ?_
  show t σ H fun vs H1 => sp (vs ++ []) H1 Q E
  simp only [List.append_nil]
  exact h
end
/-! ### errors that are made -/
/-- what an error of the class at C that tells nm and ds leaves to be wished -/
def ErrAt (K : PySem.W.Frag) (C : Addr) (nm : Str) (ds : List PyData) (H : Hp) (E : XK) : Prop := ∀ (dd t : Addr) (fs : List (Str × V)) (H' : Hp), Same H H' → H dd = none → H' dd = some (.xd fs) → fs.lookup ("code" : Str) = some (.str nm) → fs.lookup ("details" : Str) = some (.ref t) → Dp K (newOf H H') (.ref t) (.tuple ds) → E (.ref C) (some dd) H'
/-- the promise of an error's __init__ -/
def spErr (K : PySem.W.Frag) (C : Addr) (nm : Str) (vsOk : List V → Hp → List PyData → Prop) : Sp := fun vs H Q _ => ∃ (a : Addr) (ws : List V) (ds : List PyData), vs = .ref a :: ws ∧ H a = some (exo a C none) ∧ vsOk ws (butD a H) ds ∧
  ∀ (H' : Hp) (dx t : Addr) (fs : List (Str × V)), (∀ b o, b ≠ a → H b = some o → H' b = some o) → H dx = none → H' a = some (exo a C (some dx)) → H' dx = some (exd dx fs) → fs.lookup ("code" : Str) = some (.str nm) → fs.lookup ("details" : Str) = some (.ref t) → Dp K (butD dx (butD a (newOf H H'))) (.ref t) (.tuple ds) → Q .non H'
structure Ke (P : Program) (w : World) (K : PySem.W.Frag) (mg : Str → Option Value) (base : Heap) (k : Nat) (x : Str) (C : Addr) (nm : Str) (ps : List Str) (vsOk : List V → Hp → List PyData → Prop) : Prop where
  at_ : mg x = some (.ref C)
  T : OexC K C
  ex : ∃ fI fd, PySem.W.findIn K (.ref C) "__init__" = some (some (.ref fI)) ∧ PySem.W.typeIn K (.ref fI) = some (.type "function") ∧ Binds K fd ps [] ∧ FnOk P w K mg base CX0 k fI fd ps (spErr K C nm vsOk)
/-- what is wanted of the error's object behind its __init__ -/
def keEnd (C a : Addr) (H1 : Hp) (E : XK) : VK := fun v H2 => v = .non ∧ ∃ (d : Addr) (fs : List (Str × V)), H2 a = some (exo a C (some d)) ∧ H2 d = some (exd d fs) ∧ H1 d = none ∧ E (.ref C) (some d) (upd (del H2 a) d (.xd fs))
def tKe (K : PySem.W.Frag) (C : Addr) (nm : Str) (vsOk : List V → Hp → List PyData → Prop) (ta : TA) : L2.St → Hp → XK → Prop := fun σ H E => ta σ H fun vs H1 => vs.length ≤ 1000 ∧ ∀ a, H1 a = none → spErr K C nm vsOk (.ref a :: vs) (upd H1 a (exo a C none)) (keEnd C a H1 E) (fun _ _ _ => False)
theorem butD_free {a : Addr} {H : Hp} {o : HO} (h : H a = none) : butD a (upd H a o) = H := by
  funext b
  unfold butD
  by_cases hb : b = a
  · rw [if_pos hb, hb, h]
  · rw [if_neg hb, upd_ne hb]
section
variable {P : Program} {w : World} {K : PySem.W.Frag} {mg : Str → Option Value} {base : Heap} {j k : Nat} {X : Cx} {NS WS : List (Str × Nat)} {G : List Str} {x nm : Str} {C : Addr} {ps : List Str} {vsOk : List V → Hp → List PyData → Prop} {e : Expr} {es : List Expr} {t : TA} {p pos : Pos}
theorem ke_end {a : Addr} {vs : List V} {H1 : Hp} {ds : List PyData} {E : XK} (na : H1 a = none) (hv : vsOk vs H1 ds) (hE : ErrAt K C nm ds H1 E) :
    spErr K C nm vsOk (.ref a :: vs) (upd H1 a (exo a C none)) (keEnd C a H1 E) (fun _ _ _ => False) := by
  refine ⟨a, vs, ds, rfl, upd_same, by rw [butD_free na]; exact hv, fun H' dx t fs hs hdx ha hd hc hde hdp => ?_⟩
  have ndx : dx ≠ a := fun z => by rw [z, upd_same] at hdx; cases hdx
  rw [upd_ne ndx] at hdx
  refine ⟨rfl, dx, fs, ha, hd, hdx, hE dx t fs _ (fun b o hb => ?_) hdx upd_same hc hde (dp_same (fun b o hb => ?_) _ _ hdp)⟩
  · have n1 : b ≠ a := ne_of_none hb na
    have n2 : b ≠ dx := ne_of_none hb hdx
    rw [upd_ne n2, del_ne n1]
    exact hs b o n1 (by rw [upd_ne n1]; exact hb)
  · unfold butD at hb
    split at hb
    · cases hb
    · rename_i n2
      split at hb
      · cases hb
      · rename_i n1
        have z := newOf_old hb
        rw [upd_ne n1] at z
        refine newOf_at z ?_
        rw [upd_ne n2, del_ne n1]
        exact newOf_same _ _ hb
/-- .. an error without arguments -/
theorem ke_ok {K : PySem.W.Frag} {C : Addr} {nm : Str} {vsOk : List V → Hp → List PyData → Prop} {vs : List V} {H1 : Hp} {ds : List PyData} {E : XK} (hl : vs.length ≤ 1000) (hv : vsOk vs H1 ds) (hE : ErrAt K C nm ds H1 E) :
    vs.length ≤ 1000 ∧ ∀ a, H1 a = none → spErr K C nm vsOk (.ref a :: vs) (upd H1 a (exo a C none)) (keEnd C a H1 E) (fun _ _ _ => False) := ⟨hl, fun a na => ke_end na hv hE⟩
end
end Tw
namespace Tw
open PySem PySem.Spec PyProof.Rows L2 LamX NdefX
/-! ### lambdas as things: made -/
/-- a lambda's words: its qualified name, parameters, body, scope, captured cells, code object, its defaults -/
structure LF where
  qual : Str
  params : Arguments
  body : Expr
  scope : Scope
  cl : List (Str × Addr)
  c : Addr
  dv : Value
abbrev LF.fd (F : LF) (pm ctv : Value) : FuncData :=
  { name := "<lambda>", qualname := F.qual, params := F.params, body := .expr F.body, scope := F.scope, globals := mainGlobals, closure := F.cl, defaults := F.dv, kwdefaults := .none, doc := .none, pyModule := pm, annotations := none, code := .ref F.c, closureTuple := ctv, builtins := builtinsNs }
abbrev LF.obj (F : LF) (pm ctv : Value) : Obj := { cls := .type "function", data := .func (F.fd pm ctv) }
section
variable {M : Model} {A : Around} {E : Value → Shared → Prop} {s : Shared} {name qual : Str} {params : Arguments} {body : Expr} {scope : Scope} {env : Env} {c P : Addr} {ps : Array Value} {pos : Pos} {firstLine : Nat} {mg : Str → Option Value} {clos : List (Str × Addr)} {Q : Value → Shared → Prop} {dv : Value}
end
section
variable {X : Cx} {pins : List (Addr × Obj)} {σ : L2.St} {H : Hp} {s : Shared}
end
section
variable {X : Cx} {T : List NTab} {nm : Nat → Nat → Str} {c P : Addr} {params : Arguments} {body : Expr} {scope : Scope} {pos : Pos}
end
end Tw
namespace Tw
open PySem PySem.Spec PyProof.Rows L2 LamX NdefX
/-! ### cells lent to a callee: known things in its heap -/
/-- at b just this object -/
def PinO (b : Addr) (o : Obj) : HO := .ext fun h => h.get? b = some o
abbrev Cells := List (Addr × Obj)
def unlend (cs : Cells) (H : Hp) : Hp := fun b => match cs.lookup b with
  | some _ => none
  | none => H b
theorem unlend_out {cs : Cells} {H : Hp} {b : Addr} (h : cs.lookup b = none) : unlend cs H b = H b := by unfold unlend; rw [h]
/-- all the cells at cs stand in H -/
def Lent (cs : Cells) (H : Hp) : Prop := ∀ b o, cs.lookup b = some o → H b = some (PinO b o)
theorem Lent.same {cs : Cells} {H H' : Hp} (l : Lent cs H) (e : Same H H') : Lent cs H' := fun b o h => e _ _ (l b o h)
/-! #### within: from the heap with the cells known to the one without -/
section
variable {P : Program} {w : World} {K : PySem.W.Frag} {mg : Str → Option Value} {base : Heap} {A : Around} {outer : List Env} {s s' : Shared} {H H' : Hp} {cs : Cells} {Q : VK} {E : XK} {u : Value}
end
/-! ### a lambda called -/
/-- calling f() keeps the promise t -/
structure LamOk (P : Program) (w : World) (K : PySem.W.Frag) (mg : Str → Option Value) (base : Heap) (k : Nat) (f : Addr) (t : Hp → VK → XK → Prop) : Prop where
  run : ∀ (A : Around) (outer : List Env) (s : Shared) (H : Hp) (Q : VK) (E : XK), Room k A → Env0 P w K mg base A outer s H → t H Q E → codeAny (model P w) A (.call (.ref f) ⟨[], []⟩) (CR (L2.CX P w) outer P w H s Q E) s
theorem LamOk.mono {P : Program} {w : World} {K : PySem.W.Frag} {mg : Str → Option Value} {base : Heap} {j k : Nat} {f : Addr} {t : Hp → VK → XK → Prop} (L : LamOk P w K mg base j f t) (h : j ≤ k) : LamOk P w K mg base k f t :=
  ⟨fun A outer s H Q E hr e0 z => L.run A outer s H Q E (hr.mono h) e0 z⟩
/-- what the captured cells hold, told by the cells that are lent -/
structure LentFor (cl : List (Str × Addr)) (fr : List Str) (ws : List (Option V)) (cs : Cells) : Prop where
  len : ws.length = fr.length
  all : ∀ y c, cl.lookup y = some c → ∃ o v, cs.lookup c = some o ∧ o.data = .cell v
  inj : ∀ x y c, cl.lookup x = some c → cl.lookup y = some c → x = y
  has : ∀ (i : Nat) (y : Str), fr[i]? = some y → ∃ c, cl.lookup y = some c ∧ ∀ v, ws[i]? = some (some v) → ∃ o u, cs.lookup c = some o ∧ o.data = .cell (some u) ∧ L2.RelV v u
end Tw
namespace Tw
open PySem PySem.Spec PyProof.Rows L2 LamX NdefX
/-! ### a call to which the caller's cells are lent -/
structure LentOf (ce : List (Str × Addr)) (N : List Str) (sc : Scope) (σ : L2.St) (cs : Cells) (H : Hp) : Prop where
  free : ∀ b o, cs.lookup b = some o → H b = none
  all : ∀ y c, ce.lookup y = some c → ∃ o v, cs.lookup c = some o ∧ o.data = .cell v
  inj : ∀ x y c, ce.lookup x = some c → ce.lookup y = some c → x = y
  val : ∀ (i : Nat) (y : Str) (v : V), N[i]? = some y → σ[i]? = some (some v) → sc.names.lookup y = some .cell → ∃ c o u, ce.lookup y = some c ∧ cs.lookup c = some o ∧ o.data = .cell (some u) ∧ L2.RelV v u
  has : ∀ y, sc.names.lookup y = some .cell → ∃ c, ce.lookup y = some c
section
variable {X : Cx} {pins : List (Addr × Obj)} {σ : L2.St} {H : Hp} {s : Shared}
end
section
variable {P : Program} {w : World} {K : PySem.W.Frag} {mg : Str → Option Value} {base : Heap} {j k : Nat} {X : Cx} {NS WS : List (Str × Nat)} {G : List Str} {x : Str} {ps : List Str} {sp : Sp} {e : Expr} {es : List Expr} {t : TA} {p pos : Pos}
end
/-! data are no cells -/
theorem sqL_unlend {K : PySem.W.Frag} {H : Hp} {cs : Cells} {a : Addr} {xs : List V} (l : Lent cs H) (h : SqL K H a xs) : SqL K (unlend cs H) a xs := by
  have out : ∀ o, H a = some o → (∀ ob, o ≠ PinO a ob) → unlend cs H a = some o := fun o e n => by
    cases q : cs.lookup a with
    | none => rw [unlend_out q]; exact e
    | some ob => rw [l a ob q] at e; exact absurd (Option.some.inj e).symm (n ob)
  rcases h with (h | ⟨o, h⟩) | h
  · exact .inl (.inl (out _ h fun ob z => by have z' : HO.lst xs = HO.ext _ := z; cases z'))
  · exact .inl (.inr ⟨o, out _ h fun ob z => by have z' : HO.frz o _ = HO.ext _ := z; cases z'⟩)
  · exact .inr h
theorem sqT_unlend {K : PySem.W.Frag} {H : Hp} {cs : Cells} {a : Addr} {xs : List V} (l : Lent cs H) (h : SqT K H a xs) : SqT K (unlend cs H) a xs := by
  have out : ∀ o, H a = some o → (∀ ob, o ≠ PinO a ob) → unlend cs H a = some o := fun o e n => by
    cases q : cs.lookup a with
    | none => rw [unlend_out q]; exact e
    | some ob => rw [l a ob q] at e; exact absurd (Option.some.inj e).symm (n ob)
  rcases h with (h | ⟨o, h⟩) | h
  · exact .inl (.inl (out _ h fun ob z => by have z' : HO.tup xs = HO.ext _ := z; cases z'))
  · exact .inl (.inr ⟨o, out _ h fun ob z => by have z' : HO.frz o _ = HO.ext _ := z; cases z'⟩)
  · exact .inr h
mutual
theorem dp_unlend {K : PySem.W.Frag} {H : Hp} {cs : Cells} (l : Lent cs H) : ∀ (d : PyData) (v : V), Dp K H v d → Dp K (unlend cs H) v d
  | .none, _, h => by cases h; exact .non
  | .bool b, _, h => by cases h; exact .bl b
  | .int i, _, h => by cases h; exact .int i
  | .str x, _, h => by cases h; exact .str x
  | .list ds, _, h => by
    cases h with
    | lst hs ha => exact .lst (sqL_unlend l hs) (dpAll_unlend l ds _ ha)
  | .tuple ds, _, h => by
    cases h with
    | tup hs ha => exact .tup (sqT_unlend l hs) (dpAll_unlend l ds _ ha)
theorem dpAll_unlend {K : PySem.W.Frag} {H : Hp} {cs : Cells} (l : Lent cs H) : ∀ (ds : List PyData) (vs : List V), DpAll K H vs ds → DpAll K (unlend cs H) vs ds
  | [], _, h => by cases h; exact .nil
  | d :: ds, _, h => by
    cases h with
    | cons h1 h2 => exact .cons (dp_unlend l d _ h1) (dpAll_unlend l ds _ h2)
end
/-! the names of a lambda's body -/
end Tw
namespace Tw
open PySem PySem.Spec PyProof.Rows L2 LamX NdefX
/-! ### what stays where only tables of code grow -/
theorem ext_lst {H H' : Hp} (e : ExtN H H') {a : Addr} {xs : List V} (h : H a = some (.lst xs)) : H' a = some (.lst xs) := e _ _ h fun ps z => by cases z
theorem ext_tup {H H' : Hp} (e : ExtN H H') {a : Addr} {xs : List V} (h : H a = some (.tup xs)) : H' a = some (.tup xs) := e _ _ h fun ps z => by cases z
theorem sqL_ext {K : PySem.W.Frag} {H H' : Hp} {a : Addr} {xs : List V} (e : ExtN H H') (h : SqL K H a xs) : SqL K H' a xs := by
  rcases h with (h | ⟨o, h⟩) | h
  · exact .inl (.inl (ext_lst e h))
  · exact .inl (.inr ⟨o, e _ _ h fun ps z => by cases z⟩)
  · exact .inr h
theorem sqT_ext {K : PySem.W.Frag} {H H' : Hp} {a : Addr} {xs : List V} (e : ExtN H H') (h : SqT K H a xs) : SqT K H' a xs := by
  rcases h with (h | ⟨o, h⟩) | h
  · exact .inl (.inl (ext_tup e h))
  · exact .inl (.inr ⟨o, e _ _ h fun ps z => by cases z⟩)
  · exact .inr h
mutual
theorem dp_ext {K : PySem.W.Frag} {H H' : Hp} (l : ExtN H H') : ∀ (d : PyData) (v : V), Dp K H v d → Dp K H' v d
  | .none, _, h => by cases h; exact .non
  | .bool b, _, h => by cases h; exact .bl b
  | .int i, _, h => by cases h; exact .int i
  | .str x, _, h => by cases h; exact .str x
  | .list ds, _, h => by
    cases h with
    | lst hs ha => exact .lst (sqL_ext l hs) (dpAll_ext l ds _ ha)
  | .tuple ds, _, h => by
    cases h with
    | tup hs ha => exact .tup (sqT_ext l hs) (dpAll_ext l ds _ ha)
theorem dpAll_ext {K : PySem.W.Frag} {H H' : Hp} (l : ExtN H H') : ∀ (ds : List PyData) (vs : List V), DpAll K H vs ds → DpAll K H' vs ds
  | [], _, h => by cases h; exact .nil
  | d :: ds, _, h => by
    cases h with
    | cons h1 h2 => exact .cons (dp_ext l d _ h1) (dpAll_ext l ds _ h2)
end
theorem Bag.ext {H H' : Hp} {b l : Addr} (h : Bag H b l) (e : ExtN H H') : Bag H' b l := by
  obtain ⟨i, r, m, t, ns, h1, h2, h3⟩ := h
  exact ⟨i, r, m, t, ns, ext_lst e h1, ext_lst e h2, h3⟩
/-! ### data with few signs -/
theorem GoodD.up {n c c' : Nat} {d : PyData} (h : GoodD n d c) (hc : c ≤ c') : GoodD n d c' := by
  cases d with
  | none => cases n <;> exact Nat.le_trans h hc
  | bool b => cases n <;> exact Nat.le_trans h hc
  | int i => cases n <;> exact ⟨h.1, Nat.le_trans h.2 hc⟩
  | str x => cases n <;> exact ⟨h.1, Nat.le_trans h.2 hc⟩
  | dict ds => cases n <;> exact h.elim
  | list ds =>
    cases n with
    | zero => exact h.elim
    | succ n =>
      obtain ⟨h1, cs, h2, h3, h4⟩ := h
      exact ⟨h1, cs, h2, Nat.le_trans h3 hc, h4⟩
  | tuple ds =>
    cases n with
    | zero => exact h.elim
    | succ n =>
      obtain ⟨h1, cs, h2, h3, h4⟩ := h
      exact ⟨h1, cs, h2, Nat.le_trans h3 hc, h4⟩
/-! cells of a frame, by name -/
/-! ### a call that is told not to raise, of a promise that may -/
theorem fn_from {P : Program} {w : World} {K : PySem.W.Frag} {mg : Str → Option Value} {base : Heap} {k : Nat} {f : Addr} {fd : FuncData} {ps : List Str} {sp sp' : Sp} (F : FnOk P w K mg base (L2.CX P w) k f fd ps sp) (h : ∀ vs H Q E, sp' vs H Q E → sp vs H Q E0) : FnOk P w K mg base CX0 k f fd ps sp' := by
  refine ⟨fun vs H Q E z => F.len _ _ _ _ (h _ _ _ _ z), fun A outer s H args us vs Q E hr e0 hb r z => ?_⟩
  refine codeAny_mono (F.run A outer s H args us vs Q E0 hr e0 hb r (h _ _ _ _ z)) fun r s' q => ?_
  cases r with
  | ok fl => cases fl <;> exact q
  | error e =>
    obtain ⟨_, _, _, _, _, _, _, _, _, _, _, _, z⟩ := (show L2.CX P w outer H s E0 e s' from q)
    exact z.elim
end Tw
namespace Tw
open PySem PySem.Spec PyProof.Rows L2
/-! ### error classes, by one look at the heap -/
def oexB (K : Fg) (C : Addr) : Bool := (match K.lookup C with
  | some ⟨ct, _, .cls cd, ⟨[_, _, _, _, k4, _]⟩⟩ => decide (ct = .type "type") && (match cd.mro with
    | .ref C' :: bm => decide (C' = C) && PySem.HandSPX.refsVE bm
    | _ => false) && cd.hasDict && !cd.hasDel && decide (k4 = some (.builtin "ValueError.__new__"))
  | _ => false) && (decide (PySem.W.findIn K (.ref C) "__setattr__" = some (some (.builtin "object.__setattr__"))) && (decide (PySem.W.subIn K (.ref C) (.type "BaseException") = some true) && (decide (PySem.W.typeIn K (.ref C) = some (.type "type")) && PySem.W.keepIn K (.ref C))))
theorem oexB_ok {K : Fg} {C : Addr} (h : oexB K C = true) : OexC K C := by
  unfold oexB at h
  rw [Bool.and_eq_true_iff, Bool.and_eq_true_iff, Bool.and_eq_true_iff, Bool.and_eq_true_iff] at h
  obtain ⟨h1, h2, h3, h4, h5⟩ := h
  refine ⟨?_, of_decide_eq_true h2, of_decide_eq_true h3, of_decide_eq_true h4, h5⟩
  split at h1
  · rename_i ct dd cd k0 k1 k2 k3 k4 k5 e
    rw [Bool.and_eq_true_iff, Bool.and_eq_true_iff, Bool.and_eq_true_iff, Bool.and_eq_true_iff] at h1
    obtain ⟨⟨⟨⟨a1, a2⟩, a3⟩, a4⟩, a5⟩ := h1
    obtain ⟨name, bases, mro, ns, qualname, hasDict, slotNames, subclasses, abstract, collection, hasDel⟩ := cd
    dsimp only at a2 a3 a4
    split at a2
    · rename_i C' bm
      rw [Bool.and_eq_true_iff] at a2
      have e1 := of_decide_eq_true a1
      have e2 := of_decide_eq_true a2.1
      have e5 := of_decide_eq_true a5
      have e4 : hasDel = false := by cases hasDel <;> first | rfl | cases a4
      subst e1 e2 e5 e4 a3
      exact ⟨_, _, _, _, _, _, _, _, _, _, _, _, _, _, _, e, a2.2⟩
    · cases a2
  · cases h1
def excB (K : Fg) (D : Addr) : Bool := decide (PySem.W.findIn K (.ref D) "__getattribute__" = some (some (.builtin "BaseException.__getattribute__"))) && (decide (PySem.W.findIn K (.ref D) "__getattr__" = some none) && (decide (PySem.W.subIn K (.ref D) (.type "BaseException") = some true) && (PySem.W.hasDictIn K D &&
  (decide (PySem.W.findIn K (.ref D) "__class__" = some (some (.builtin "object.__class__"))) && (decide (PySem.W.specialIn K (.builtin "object.__class__") "__get__" = some (some (.builtin "getset_descriptor.__get__"))) && (decide (PySem.W.takesIn K (.builtin "object.__class__") = some true) && decide (PySem.W.mroIn K D (.type "object") = some true)))))))
theorem excB_ok {K : Fg} {D : Addr} (h : excB K D = true) : ExcC K D ∧ XfC K D := by
  unfold excB at h
  simp only [Bool.and_eq_true_iff, decide_eq_true_eq] at h
  obtain ⟨h1, h2, h3, h4, h5, h6, h7, h8⟩ := h
  exact ⟨⟨h1, h2, h3, h4, h5, h6, h7, h8⟩, ⟨h1, h2, h3, h4⟩⟩
def nameB (K : Fg) (C : Addr) (nm : Str) : Bool := match K.lookup C with
  | some ⟨ct, _, _, ⟨_ :: _ :: some (.str z _) :: _⟩⟩ => decide (ct = .type "type") && decide (z = nm)
  | _ => false
def nmfB' (K : Fg) (C : Addr) : Bool := match PySem.W.findCls K (.ref C) (.type "type") "__name__" with
  | some (.get g v o t) => decide (g = .builtin "getset_descriptor.__get__") && (decide (v = .builtin "type.__name__") && (decide (o = .ref C) && decide (t = .type "type")))
  | _ => false
theorem nmfB'_ok {K : Fg} {C : Addr} (h : nmfB' K C = true) : PySem.W.findCls K (.ref C) (.type "type") "__name__" = some (.get (.builtin "getset_descriptor.__get__") (.builtin "type.__name__") (.ref C) (.type "type")) := by
  unfold nmfB' at h
  split at h
  · rename_i g v o t e
    simp only [Bool.and_eq_true_iff, decide_eq_true_eq] at h
    obtain ⟨rfl, rfl, rfl, rfl⟩ := h
    exact e
  · cases h
def errB (K : Fg) (C : Addr) (nm : Str) : Bool := excB K C && (nameB K C nm && (decide (PySem.W.nsIn K cStatics "thirdparty.any" = some none) && (decide (PySem.W.typeIn K (.ref C) = some (.type "type")) && nmfB' K C)))
theorem errB_ok {K : Fg} {C : Addr} {nm : Str} (h : errB K C nm = true) : ErrN K C nm := by
  unfold errB at h
  simp only [Bool.and_eq_true_iff, decide_eq_true_eq] at h
  obtain ⟨h1, h2, h3, h4, h5⟩ := h
  refine ⟨(excB_ok h1).1, ?_, h3, h4, nmfB'_ok h5⟩
  unfold nameB at h2
  split at h2
  · rename_i ct dd dt s0 s1 z t r e
    rw [Bool.and_eq_true_iff] at h2
    rw [← of_decide_eq_true h2.2]
    exact ⟨_, t, e, of_decide_eq_true h2.1, rfl⟩
  · cases h2
/-! ### the law's code object and its table -/
def lwC (K : Fg) : Addr := cdA K (He.ga K "law")
def lwP (K : Fg) : Addr := He.tabOf K (lwC K)
structure SaysP (fs : List FdO) (ex : Fg → List Bool) (h : Heap) (K : Fg) : Prop where
  kin : K.In h
  sy : SaysO fs ex K
  hd : PySem.W.codeHdIn K (lwC K) (lwP K) = true
  nK : K.lookup (lwP K) = none
  at_ : h.get? (lwP K) = some { cls := .none, data := .fields #[] }
end Tw
/-! t[::-1], t a tuple (the library has it of lists; getItem_tuple_cut and sliceApplied_gen followed, with the step -1) -/
namespace HT
open PySem PySem.Calls PyProof.Rows
section
variable {prog : Program} {w : World} {A : Around} {E : Value → Shared → Prop} {s : Shared}
end
end HT
namespace Tw
open PySem PySem.Spec PyProof.Rows L2 RT
end Tw
/-! an own error made without arguments (the library has it with some: pmk_oex, followed here) -/
namespace L2
open PySem PySem.Spec PyProof.Rows
theorem pmk_oex0 {X : Cx} {p pos : Pos} {CX : CXT} {x : Str} {C fI : Addr} {k : Nat} {fd : FuncData} {ps : List Str} {sp : Sp} (T : OexC X.K C) (iC : PySem.W.findIn X.K (.ref C) "__init__" = some (some (.ref fI))) (tI : PySem.W.typeIn X.K (.ref fI) = some (.type "function"))
    (F1 : FnOk X.prog X.w X.K X.mg X.base CX k fI fd ps sp) (hr : Room (k + 1) X.A) (hb : Binds X.K fd ps []) (hx : Passes CX X (fun _ _ _ => False)) (hg : Gl X x) (hm : X.mg x = some (.ref C)) (hdb : (x == ("__debug__" : Str)) = false := by decide) :
    PMk X (.Call (.Name x p) [] [] pos) (tMkO C sp [] tNil) := by
  intro pins s σ H Q I h
  obtain ⟨nm, q, N, bs, bm, sn, sub, ab, col, dd, k0, k1, k2, k3, k5, hC, hbm⟩ := T.cls
  refine wpAny_Call_Name_kw (ld_glob I hg hm ?_ hdb)
  refine PySem.W.callWith_K0 I.kIn T.kC ?_
  obtain ⟨hz, q1⟩ := h
  show wpAny _ _ (call (.ref C) []) _ _ _
  obtain ⟨hp, g, dr, tk, os⟩ := s
  have hsz : hp.objs.size ≤ hp.objs.size + 1 := Nat.le_succ _
  have hn : H (hp.objs.size + 1) = none := I.hok.fresh hsz
  have hq := q1 (hp.objs.size + 1) hn
  have kk : ∀ b o, hp.get? b = some o → ((hp.push (PySem.W.kdv_tup [])).push (PySem.HandSPX.excO C hp.objs.size)).get? b = some o := fun b o e => Heap.get?_push_of_some _ (Heap.get?_push_of_some _ e)
  have hget : ((hp.push (PySem.W.kdv_tup [])).push (PySem.HandSPX.excO C hp.objs.size)).get? (hp.objs.size + 1) = some (PySem.HandSPX.excO C hp.objs.size) := by heap_get
  have I2 : Inv X pins σ (upd H (hp.objs.size + 1) (exo (hp.objs.size + 1) C none)) ⟨(hp.push (PySem.W.kdv_tup [])).push (PySem.HandSPX.excO C hp.objs.size), g, dr, tk, os⟩ :=
    I.laid (t' := tk) (a := hp.objs.size + 1) (o := exo (hp.objs.size + 1) C none) (h' := (hp.push (PySem.W.kdv_tup [])).push (PySem.HandSPX.excO C hp.objs.size)) kk hsz (exo_ok hget)
  have r2 : Vals (V.ref (hp.objs.size + 1) :: ([] ++ [])) (Value.ref (hp.objs.size + 1) :: ([] ++ [])) := .cons rfl .nil
  have hl : (Value.ref (hp.objs.size + 1) :: [] ++ []).length = ps.length := by
    have e := r2.length
    rw [F1.len _ _ _ _ hq] at e
    exact e.symm
  have hbt := hb ⟨(hp.push (PySem.W.kdv_tup [])).push (PySem.HandSPX.excO C hp.objs.size), g, dr, tk, os⟩ (Value.ref (hp.objs.size + 1) :: []) I2.kIn hl
  rw [List.append_nil] at hbt
  refine wpAny_call (PySem.HandSPX.call_own F.excBase_ValueError (fun Y => PySem.HandSPX.refsVE_contains Y bm hbm) (I.kIn _ _ hC) (PySem.W.looks_findIn I.kIn iC) (fun self => PySem.W.bind_fn I.kIn self tI) (Nat.zero_le _)
    (codeAny_mono (F1.run _ X.stack _ _ ⟨Value.ref (hp.objs.size + 1) :: [], []⟩ [Value.ref (hp.objs.size + 1)] _ _ (fun _ _ _ => False) (hr.make C [] []) (I2.env0.make C [] []) hbt r2 hq) fun r s' hq' => ?_))
  cases r with
  | error er => exact hx pins σ _ _ er s' I2 hq'
  | ok fl =>
    cases fl with
    | ret u =>
      obtain ⟨v, H2, os2, bare2, un2, hok2, rv, ev, d, fs, ea, ed, hd1, q2⟩ := hq'
      subst ev
      obtain ⟨h2, g2, d2, t2, os'⟩ := s'
      exact ⟨rv, mk_end (raises_own T.exC T.tyC) I hsz kk un2 hok2 os2 bare2 ea ed hd1 q2⟩
    | next => exact False.elim hq'
    | brk => exact False.elim hq'
    | cont => exact False.elim hq'
end L2
namespace Tw
open PySem PySem.Spec PyProof.Rows L2
theorem n_ke0 {P : Program} {w : World} {K : PySem.W.Frag} {mg : Str → Option Value} {base : Heap} {j k : Nat} {X : Cx} {NS WS : List (Str × Nat)} {G : List Str} {x nm : Str} {C : Addr} {ps : List Str} {vsOk : List V → Hp → List PyData → Prop} {p pos : Pos}
    (h : Nm P w K mg base j X NS WS G) (D : Ke P w K mg base k x C nm ps vsOk) (hk : k + 1 ≤ j) (hg : x ∈ G) : PMk X (.Call (.Name x p) [] [] pos) (tKe K C nm vsOk tNil) := by
  obtain ⟨h1, h2, h3, h4, h5, hr, _, _, _, _, hgl⟩ := h
  subst h1 h2 h3 h4 h5
  obtain ⟨fI, fd, i1, i2, hb, F⟩ := D.ex
  intro pins s σ H Q I hh
  exact pmk_oex0 D.T i1 i2 F (hr.mono hk) hb pass0 (hgl x hg).1 D.at_ (hgl x hg).2.1 pins s σ H Q I hh
end Tw
namespace Tw
open PySem PySem.Spec PyProof.Rows L2
/-- a def that may raise, called with some keywords -/
structure DxN (P : Program) (w : World) (K : PySem.W.Frag) (mg : Str → Option Value) (base : Heap) (k : Nat) (x : Str) (ps : List Str) (n : Nat) (ks : List Str) (gV : List V → List V → List V) (sp : Sp) : Prop where
  ex : ∃ f fd, ∃ g : List Value → List Value → List Value, mg x = some (.ref f) ∧ PySem.W.keepIn K (.ref f) = true ∧ KBn K fd ps n ks g gV ∧ FnOk P w K mg base (L2.CX P w) k f fd ps sp
end Tw
namespace Tw
open PySem PySem.Spec PyProof.Rows L2
/-! ### makers and static methods that may raise -/
structure Kx (P : Program) (w : World) (K : PySem.W.Frag) (mg : Str → Option Value) (base : Heap) (k : Nat) (C : Addr) (n : Nat) (ps ks : List Str) (gV : List V → List V → List V) (sp : Sp) : Prop where
  ex : ∃ f fd g, Mk K C f ∧ KBn K fd ps (n + 1) ks g gV ∧ FnOk P w K mg base (L2.CX P w) k f fd ps sp
structure Kx0 (P : Program) (w : World) (K : PySem.W.Frag) (mg : Str → Option Value) (base : Heap) (k : Nat) (C : Addr) (ps : List Str) (sp : Sp) : Prop where
  ex : ∃ f fd ds, Mk K C f ∧ Vals [V.int 0] ds ∧ Binds K fd ps ds ∧ FnOk P w K mg base (L2.CX P w) k f fd ps sp
structure Sx (P : Program) (w : World) (K : PySem.W.Frag) (mg : Str → Option Value) (base : Heap) (k : Nat) (C : Addr) (m : Str) (ps : List Str) (sp : Sp) : Prop where
  ex : ∃ q f fd mc rest, ClX.CRead K C mc ∧ PySem.W.findCls K (.ref C) mc m = some (.get (.builtin "staticmethod.__get__") (.ref q) .none (.ref C)) ∧ PySem.W.recIn K q "staticmethod" = some (.ref f :: rest) ∧
    PySem.W.keepIn K (.ref f) = true ∧ Binds K fd ps [] ∧ FnOk P w K mg base (L2.CX P w) k f fd ps sp
structure SxK (P : Program) (w : World) (K : PySem.W.Frag) (mg : Str → Option Value) (base : Heap) (k : Nat) (C : Addr) (m : Str) (ps ks : List Str) (gV : List V → List V → List V) (sp : Sp) : Prop where
  ex : ∃ q f fd mc rest, ∃ g : List Value → List Value → List Value, ClX.CRead K C mc ∧ PySem.W.findCls K (.ref C) mc m = some (.get (.builtin "staticmethod.__get__") (.ref q) .none (.ref C)) ∧ PySem.W.recIn K q "staticmethod" = some (.ref f :: rest) ∧
    PySem.W.keepIn K (.ref f) = true ∧ KBn K fd ps 0 ks g gV ∧ FnOk P w K mg base (L2.CX P w) k f fd ps sp
section
variable {P : Program} {w : World} {K : PySem.W.Frag} {mg : Str → Option Value} {base : Heap} {j k n : Nat} {X : Cx} {NS WS : List (Str × Nat)} {G : List Str} {x m : Str} {C : Addr} {ps ks : List Str} {sp : Sp} {e : Expr} {es : List Expr} {t tk : TA} {p pos apos : Pos} {E : XK} {kws : List Keyword}
end
end Tw
namespace Tw
open PySem PySem.Spec PyProof.Rows L2
/-! ### new instances: keywords alone; the class in a local name -/
section
variable {P : Program} {w : World} {K : PySem.W.Frag} {mg : Str → Option Value} {base : Heap} {j k : Nat} {X : Cx} {NS WS : List (Str × Nat)} {G : List Str} {x : Str} {i : Nat} {p pos : Pos} {e : Expr} {es : List Expr} {kws : List Keyword} {t tk : TA} {ps ks : List Str} {sp : Sp} {C : Addr}
structure Kfk (P : Program) (w : World) (K : PySem.W.Frag) (mg : Str → Option Value) (base : Heap) (k : Nat) (C : Addr) (ps ks : List Str) (gV : List V → List V → List V) (sp : Sp) : Prop where
  ex : ∃ f fd g, Mk K C f ∧ KBn K fd ps 1 ks g gV ∧ FnOk P w K mg base CX0 k f fd ps sp
structure Kdl (P : Program) (w : World) (K : PySem.W.Frag) (mg : Str → Option Value) (base : Heap) (k : Nat) (C : Addr) (ps : List Str) (sp : Sp) : Prop where
  ex : ∃ f fd, Mk K C f ∧ Binds K fd ps [] ∧ FnOk P w K mg base CX0 k f fd ps sp
end
end Tw
namespace Tw
open PySem PySem.Spec PyProof.Rows L2
/-! ### comprehensions of objects made anew, over any sequence; enumerate of any sequence -/
/-- an iteration over pairs of place and item, made anew -/
structure EnJ (J : It) (S : Hp → Prop) (xs : List V) : Prop where
  go : ∀ H (j : Nat) x, S H → xs[j]? = some x → J.go j H
  stop : ∀ H, S H → J.stop xs.length H
  yl : ∀ H (j : Nat) v H', S H → J.yld j H v H' → ∃ T x, v = .ref T ∧ H T = none ∧ H' = upd H T (.tup [.int (j : Nat), x]) ∧ xs[j]? = some x
/-! ### tuple(x), list(x) in a block: what they ask speaks of K alone -/
section
variable {P : Program} {w : World} {K : PySem.W.Frag} {mg : Str → Option Value} {base : Heap} {j k : Nat} {X : Cx} {NS WS : List (Str × Nat)} {G : List Str} {p pos : Pos} {e : Expr} {es : List Expr} {t : TA}
end
end Tw
namespace Tw
open PySem PySem.Spec PyProof.Rows L2
/-! ### tuples of tuples, lists of lists of ints as data; slices in a block; range as a sequence -/
def RowsLi (H : Hp) (xs : List V) (ks : List (List Int)) : Prop := xs.length = ks.length ∧ ∀ (i : Nat) v k, xs[i]? = some v → ks[i]? = some k → ∃ a, v = .ref a ∧ H a = some (.lst (k.map V.int))
theorem RowsLi.same {H H' : Hp} {xs : List V} {ks : List (List Int)} (h : RowsLi H xs ks) (e : Same H H') : RowsLi H' xs ks := ⟨h.1, fun i v r h1 h2 => by
  obtain ⟨a, e1, e2⟩ := h.2 i v r h1 h2
  exact ⟨a, e1, e _ _ e2⟩⟩
def rngV (n : Nat) : List V := (List.range n).map fun i => V.int (i : Nat)
theorem rng_at {n i : Nat} {x : V} (h : (rngV n)[i]? = some x) : i < n ∧ x = .int (i : Nat) := by
  unfold rngV at h
  rw [List.getElem?_map] at h
  by_cases c : i < n
  · rw [List.getElem?_range c] at h
    exact ⟨c, (Option.some.inj h).symm⟩
  · rw [List.getElem?_eq_none (by rw [List.length_range]; omega)] at h
    cases h
theorem rng_len (n : Nat) : (rngV n).length = n := by unfold rngV; rw [List.length_map, List.length_range]
theorem lcNR {K : PySem.W.Frag} {n : Nat} {R : Nat → V → Hp → Prop} {g : TG} {te : TE} {vs : List Nat} {σ : L2.St} {H1 : Hp} {D : Addr} {Qd : Hp → Prop} (hD : H1 D = none) (hz : n < sizeLine)
    (hR : ∀ i y H H', Same H H' → R i y H → R i y H') (hRl : ∀ i y H zs, R i y H → R i y (upd H D (.lst zs)))
    (he : ∀ (j : Nat) H' (Qk : V → Hp → Prop), j < n → Same H1 H' → (∃ ys, H' D = some (.lst ys)) → (∀ y H3, Same H' H3 → R j y H3 → Qk y H3) → g (.int (j : Nat)) (wipe σ vs) H' fun σ2 H3 => wipe σ2 vs = wipe σ vs ∧ te σ2 H3 Qk)
    (hd : ∀ ys H', Same H1 H' → H' D = some (.lst ys) → ys.length = n → (∀ (i : Nat) y, ys[i]? = some y → R i y H') → Qd H')
    (hgm : ∀ v σ H (A B : L2.St → Hp → Prop), (∀ σ H, A σ H → B σ H) → g v σ H A → g v σ H B) :
    ∃ W : Nat → Nat → Hp → Prop, (∃ m, W 0 m (upd H1 D (.lst []))) ∧ ∀ i' m H, W i' m H →
      ((Itr 0 n).stop i' H ∧ Qd H) ∨ ((Itr 0 n).go i' H ∧ ∃ Nx : Hp → Prop, (∀ H', Nx H' → ∃ m', m' < m ∧ W (i' + 1) m' H') ∧ ∀ x H', (Itr 0 n).yld i' H x H' → g x (wipe σ vs) H' fun σ2 H2 => wipe σ2 vs = wipe σ vs ∧ tYes σ2 H2 fun b H3 =>
        if b = true then te σ2 H3 fun y H4 => ∃ acc, H4 D = some (.lst acc) ∧ acc.length < sizeLine ∧ Nx (upd H4 D (.lst (acc ++ [y]))) else Nx H3) :=
  lcB (K := K) (xs := rngV n) hD (by rw [rng_len]; exact hz) (fun H j s hj' => by rw [rng_len] at hj'; exact hj') (fun H s => by show n ≤ (rngV n).length; rw [rng_len]; exact Nat.le_refl _) hR hRl (fun j x H' v H2 Qk hx s1 hys hy kk => by
    obtain ⟨hj, _⟩ := rng_at hx
    have hy' : H2 = H' ∧ v = .int (0 + (j : Int)) := hy
    obtain ⟨rfl, rfl⟩ := hy'
    rw [Int.zero_add]
    exact he j _ Qk hj s1 hys kk) (fun ys H' s1 hDl hyl hRR => hd ys H' s1 hDl (by rw [hyl, rng_len]) hRR) hgm
section
variable {P : Program} {w : World} {K : PySem.W.Frag} {mg : Str → Option Value} {base : Heap} {j k : Nat} {X : Cx} {NS WS : List (Str × Nat)} {G : List Str} {p2 pos : Pos} {e : Expr} {lo hi : Option Expr} {te : TE}
end
end Tw
namespace Tw
open PySem PySem.Spec PyProof.Rows L2
/-! ### a classmethod by its name, as a fact; a value of a base class against an own class -/
end Tw
namespace Tw
open PySem PySem.Spec PyProof.Rows L2
/-! ### one reading or the other; a def with defaults that may raise -/
structure DdX (P : Program) (w : World) (K : PySem.W.Frag) (mg : Str → Option Value) (base : Heap) (k : Nat) (x : Str) (ps : List Str) (dvs : List V) (sp : Sp) : Prop where
  ex : ∃ f fd ds, mg x = some (.ref f) ∧ PySem.W.keepIn K (.ref f) = true ∧ Vals dvs ds ∧ Binds K fd ps ds ∧ FnOk P w K mg base (L2.CX P w) k f fd ps sp
end Tw
namespace Tw
open PySem PySem.Spec PyProof.Rows L2
/-! ### how long the round of the zeros is, at every number of dials -/
section
variable {p : Int} {M : Mach} {st : Int}
end
end Tw
namespace Tw
open PySem PySem.Spec PyProof.Rows L2
/-! ### totals of undone turners and of products -/
structure OkZ (p : Int) (M : Mach) (st : Int) : Prop where
  pr : IsP p
  ok : OkM p (M.length : Int) M
  st0 : 0 ≤ st
  st1 : st < (M.length : Int)
section
variable {p : Int} {M N : Mach} {st sd : Int}
end
end Tw
namespace Tw
open PySem PySem.Spec PyProof.Rows L2
/-! ### makers, classmethods, calls of instances and methods that may raise -/
structure KdX (P : Program) (w : World) (K : PySem.W.Frag) (mg : Str → Option Value) (base : Heap) (k : Nat) (C : Addr) (ps : List Str) (sp : Sp) : Prop where
  ex : ∃ f fd, Mk K C f ∧ Binds K fd ps [] ∧ FnOk P w K mg base (L2.CX P w) k f fd ps sp
structure CMx (P : Program) (w : World) (K : PySem.W.Frag) (mg : Str → Option Value) (base : Heap) (k : Nat) (C : Addr) (m : Str) (ps : List Str) (sp : Sp) : Prop where
  ex : ∃ mc q g, ClX.CRead K C mc ∧ ClX.CMet K C mc m q g ∧ FnR P w K mg base (L2.CX P w) k g sp
structure CoX (P : Program) (w : World) (K : PySem.W.Frag) (mg : Str → Option Value) (base : Heap) (k : Nat) (C : Addr) (ps : List Str) (sp : Sp) : Prop where
  ex : ∃ f fd, StX.CallO K C f ∧ Binds K fd ps [] ∧ FnOk P w K mg base (L2.CX P w) k f fd ps sp
structure Mx (P : Program) (w : World) (K : PySem.W.Frag) (mg : Str → Option Value) (base : Heap) (k : Nat) (C : Addr) (m : Str) (ps : List Str) (sp : Sp) : Prop where
  ex : ∃ f fd, Meth K C m f ∧ Binds K fd ps [] ∧ FnOk P w K mg base (L2.CX P w) k f fd ps sp
section
variable {P : Program} {w : World} {K : PySem.W.Frag} {mg : Str → Option Value} {base : Heap} {j k n : Nat} {X : Cx} {NS WS : List (Str × Nat)} {G : List Str} {x m : Str} {C : Addr} {ps ks : List Str} {sp : Sp} {e o : Expr} {es : List Expr} {t tk : TA} {ta : TE} {p pos apos : Pos} {E : XK} {kws : List Keyword}
end
end Tw
namespace Tw
open PySem PySem.Spec PyProof.Rows L2
end Tw
namespace Tw
open PySem PySem.Spec PyProof.Rows L2 LamX NdefX
/-! ### lambdas called with arguments -/
structure LamA (P : Program) (w : World) (K : PySem.W.Frag) (mg : Str → Option Value) (base : Heap) (k : Nat) (f : Addr) (t : List V → Hp → VK → XK → Prop) : Prop where
  run : ∀ (A : Around) (outer : List Env) (s : Shared) (H : Hp) (us : List Value) (vs : List V) (Q : VK) (E : XK), Room k A → Env0 P w K mg base A outer s H → Vals vs us → t vs H Q E → codeAny (model P w) A (.call (.ref f) ⟨us, []⟩) (CR (L2.CX P w) outer P w H s Q E) s
theorem LamA.mono {P : Program} {w : World} {K : PySem.W.Frag} {mg : Str → Option Value} {base : Heap} {j k : Nat} {f : Addr} {t : List V → Hp → VK → XK → Prop} (L : LamA P w K mg base j f t) (h : j ≤ k) : LamA P w K mg base k f t :=
  ⟨fun A outer s H us vs Q E hr e0 r z => L.run A outer s H us vs Q E (hr.mono h) e0 r z⟩
end Tw
namespace Tw
open PySem PySem.Spec PyProof.Rows L2
/-! ### machines explored by keys -/
section
variable {κ : Type} [DecidableEq κ]
def addE (ks : List κ) (c : κ) : List κ := if c ∈ ks then ks else ks ++ [c]
def addsE : List κ → List κ → List κ
  | ks, [] => ks
  | ks, g :: gs => addsE (addE ks g) gs
def plE (ks : List κ) (c : κ) : Nat := ks.idxOf c
def kE (beh : κ → Int × List κ) (a : κ) : Nat → List κ
  | 0 => [a]
  | j + 1 => match (kE beh a j)[j]? with
    | some c => addsE (kE beh a j) (beh c).2
    | none => kE beh a j
theorem plE_app {ks : List κ} {c : κ} (r : List κ) (h : c ∈ ks) : plE (ks ++ r) c = plE ks c := by
  unfold plE
  rw [List.idxOf_append, if_pos h]
theorem plE_snoc {ks : List κ} {c : κ} (h : c ∉ ks) : plE (ks ++ [c]) c = ks.length := by
  unfold plE
  rw [List.idxOf_append, if_neg h]
  simp
/-- the walk goes on up to j -/
def GoE (beh : κ → Int × List κ) (a : κ) (J : Nat) : Prop := ∀ i, i < J → i < (kE beh a i).length
structure DoneE (beh : κ → Int × List κ) (a : κ) (J : Nat) : Prop where
  go : GoE beh a J
  len : (kE beh a J).length = J
  le : J ≤ 240
structure OverE (beh : κ → Int × List κ) (a : κ) (J : Nat) : Prop where
  go : GoE beh a J
  gt : 240 < (kE beh a J).length
end
/-! the dict of the places of ints -/
def PlE (H : Hp) (d : Addr) (ks : List Int) : Prop := ∃ kvs : List (Key × V), H d = some (.dK kvs) ∧ kvs.length ≤ ks.length ∧ ∀ c : Int, valV kvs (.inl c : Key) = if c ∈ ks then some (.int (plE ks c : Nat)) else none
theorem PlE.get {H : Hp} {d : Addr} {ks : List Int} (h : PlE H d ks) (c : Int) : DGet H d (.int c) (if c ∈ ks then some (.int (plE ks c : Nat)) else none) := by
  obtain ⟨kvs, h1, h2, h3⟩ := h
  have g := DGet.k (k := (.inl c : Key)) h1
  rw [h3 c] at g
  exact g
theorem PlE.put {H : Hp} {d : Addr} {ks : List Int} (h : PlE H d ks) {c : Int} (hn : c ∉ ks) (hl : ks.length < 2000) : ∃ kvs, DPut H d (.int c) (.int (ks.length : Nat)) (upd H d (.dK kvs)) ∧ PlE (upd H d (.dK kvs)) d (ks ++ [c]) := by
  obtain ⟨kvs, h1, h2, h3⟩ := h
  refine ⟨putK kvs (.inl c) (.int (ks.length : Nat)), DPut.k (k := (.inl c : Key)) h1 (Nat.lt_of_le_of_lt h2 (Nat.lt_trans hl (by rw [sizeLine_eq]; decide))), _, upd_same, ?_, fun e => ?_⟩
  · have := length_putK kvs (.inl c : Key) (V.int (ks.length : Nat))
    rw [List.length_append]
    show _ ≤ ks.length + 1
    omega
  · rw [valV_put]
    by_cases q : e = c
    · subst q
      rw [if_pos rfl, if_pos (by simp), plE_snoc hn]
    · rw [if_neg (fun z => q (by injection z)), h3 e]
      by_cases m : e ∈ ks
      · rw [if_pos m, if_pos (List.mem_append_left _ m), plE_app _ m]
      · rw [if_neg m, if_neg (fun z => by
          rcases List.mem_append.mp z with z | z
          · exact m z
          · exact q (List.mem_singleton.mp z))]
theorem PlE.same {H H' : Hp} {d : Addr} {ks : List Int} (h : PlE H d ks) (e : Same H H') : PlE H' d ks := by
  obtain ⟨kvs, h1, h2⟩ := h
  exact ⟨kvs, e _ _ h1, h2⟩
theorem PlE.ne {H : Hp} {d a : Addr} {ks : List Int} {xs : List V} (h : PlE H d ks) (e : H a = some (.lst xs)) : a ≠ d := by
  obtain ⟨kvs, h1, h2⟩ := h
  exact ne_of e h1 (by intro q; cases q)
theorem PlE.lst {H : Hp} {d a : Addr} {ks : List Int} {xs ys : List V} (h : PlE H d ks) (e : H a = some (.lst xs)) : PlE (upd H a (.lst ys)) d ks := by
  have n := h.ne e
  obtain ⟨kvs, h1, h2⟩ := h
  exact ⟨kvs, by rw [upd_ne n.symm]; exact h1, h2⟩
end Tw
namespace Tw
open PySem PySem.Spec PyProof.Rows L2 LamX NdefX
/-! ### a lambda with one parameter, captured names and cells of its own -/
structure AccOk (lo n : Nat) (h : Heap) (acc : List (Str × Addr)) (H : Addr → Prop) : Prop where
  inj : ∀ x y c, acc.lookup x = some c → acc.lookup y = some c → x = y
  lt : ∀ y c, acc.lookup y = some c → c < n
  cell : ∀ y c, acc.lookup y = some c → ∃ v, h.IsCell c v
  fr : ∀ y c, acc.lookup y = some c → H c
  ne : ∀ y c, acc.lookup y = some c → c ≠ lo
section
variable {M : Model} {A : Around} {E : Value → Shared → Prop} {s : Shared}
end
structure NScopeC (N : List Str) (x : Str) (fr : List Str) (sc : Scope) : Prop where
  kind : sc.kind = .function
  co : sc.isCoroutine = false
  gen : sc.isGenerator = false
  nd : N.Nodup
  pre : N.take (1 + fr.length) = x :: fr
  par : sc.names.lookup x = some .local ∨ sc.names.lookup x = some .cell
  free : ∀ y ∈ sc.names, y.2 = .free → y.1 ∈ fr
  frk : ∀ y ∈ fr, sc.names.lookup y = some .free
  frc : ∀ y ∈ fr, ∀ p ∈ sc.names, p.2 = .cell → p.1 ≠ y
section
variable {CX : CXT} {P : Program} {w : World} {K : PySem.W.Frag} {mg : Str → Option Value} {base : Heap} {N fr : List Str} {F : LF} {f : Addr} {A : Around} {outer : List Env} {s : Shared} {H : Hp} {E : XK} {x : Str} {u : Value} {v : V} {ws : List (Option V)}
end
end Tw
namespace Tw
open PySem PySem.Spec PyProof.Rows L2 LamX NdefX
/-! ### a call to which the caller's cells are lent, that may raise -/
end Tw
namespace Tw
open PySem PySem.Spec PyProof.Rows L2
/-! ### truth by an own __bool__; one reading of a test or the other -/
structure Ob (P : Program) (w : World) (K : PySem.W.Frag) (mg : Str → Option Value) (base : Heap) (k : Nat) (C : Addr) (ps : List Str) (sp : Sp) : Prop where
  ex : ∃ f fd, PySem.W.findIn K (.ref C) "__bool__" = some (some (.ref f)) ∧ PySem.W.isFn K (.ref f) = true ∧ Binds K fd ps [] ∧ FnOk P w K mg base CX0 k f fd ps sp
end Tw
namespace Tw
open PySem PySem.Spec PyProof.Rows L2
/-! ### defs whose lambdas have a table of code objects: any list of them; a block of statements read in one way or the other -/
def lqC (K : Fg) (d : Str) : Addr := cdA K (He.ga K d)
def lqP (K : Fg) (d : Str) : Addr := He.tabOf K (lqC K d)
structure TbQ (h : Heap) (K : Fg) (d : Str) : Prop where
  hd : PySem.W.codeHdIn K (lqC K d) (lqP K d) = true
  nK : K.lookup (lqP K d) = none
  at_ : h.get? (lqP K d) = some { cls := .none, data := .fields #[] }
structure SaysQ (ds : List Str) (fs : List FdO) (ex : Fg → List Bool) (h : Heap) (K : Fg) : Prop where
  kin : K.In h
  sy : SaysO fs ex K
  tb : ∀ d ∈ ds, TbQ h K d
end Tw
namespace Tw
open PySem PySem.Spec PyProof.Rows L2
/-! ### x * y by an own __mul__ that may raise -/
section
variable {X : Cx} {n : Nat} {C : Addr} {E : XK}
structure OmX (P : Program) (w : World) (K : PySem.W.Frag) (mg : Str → Option Value) (base : Heap) (k : Nat) (C : Addr) (ps : List Str) (sp : Sp) : Prop where
  ex : ∃ f fd, PySem.W.findIn K (.ref C) "__mul__" = some (some (.ref f)) ∧ PySem.W.isFn K (.ref f) = true ∧ Binds K fd ps [] ∧ FnOk P w K mg base (L2.CX P w) k f fd ps sp
  sf : PySem.W.selfFirst K C = true
end
end Tw
namespace Tw
open PySem PySem.Spec PyProof.Rows L2
/-! ### the mathematics of a mixing turner: its keys are the number without its lower figures -/
end Tw
namespace Tw
open PySem PySem.Spec PyProof.Rows L2 LamX NdefX
/-! ### what a lent call leaves where tables of code have grown in it -/
end Tw
namespace Tw
open PySem PySem.Spec PyProof.Rows L2
/-! ### what the turner of a sum and a product does to figures -/
end Tw
namespace Tw
open PySem PySem.Spec PyProof.Rows L2
/-! ### products of machines that go round: the pairs that are reached -/
structure CycM (p : Int) (m : Nat) (M : Mach) : Prop where
  len : M.length = m
  pos : 0 < m
  go : ∀ (s : Nat) (d : Int), s < m → 0 ≤ d → d < p → goM M (s : Int) d = (((s + 1) % m : Nat) : Int)
def cyK (m n : Nat) (i : Nat) : Key2 := (((i % m : Nat) : Int), ((i % n : Nat) : Int))
structure IsL (m n L : Nat) : Prop where
  pos : 0 < L
  at_ : cyK m n L = (0, 0)
  no : ∀ i, 0 < i → i < L → cyK m n i ≠ (0, 0)
section
variable {p : Int} {m n L : Nat} {M N : Mach}
end
end Tw
namespace Tw
open PySem PySem.Spec PyProof.Rows L2 LamX
/-! ### keys that are tuples of ints -/
abbrev KeyL := List Int
def KlAt (H : Hp) (v : V) (c : KeyL) : Prop := ∃ a, v = .ref a ∧ H a = some (.tup (c.map V.int))
def KlsAt (H : Hp) (xs : List V) (ks : List KeyL) : Prop := xs.length = ks.length ∧ ∀ (i : Nat) x k, xs[i]? = some x → ks[i]? = some k → KlAt H x k
theorem KlAt.same {H H' : Hp} {v : V} {k : KeyL} (h : KlAt H v k) (e : Same H H') : KlAt H' v k := by
  obtain ⟨a, rfl, h⟩ := h
  exact ⟨a, rfl, e _ _ h⟩
theorem KlsAt.same {H H' : Hp} {xs : List V} {ks : List KeyL} (h : KlsAt H xs ks) (e : Same H H') : KlsAt H' xs ks := ⟨h.1, fun i x k h1 h2 => (h.2 i x k h1 h2).same e⟩
theorem KlAt.lst {H : Hp} {v : V} {k : KeyL} {r : Addr} {ys zs : List V} (x : KlAt H v k) (h : H r = some (.lst ys)) : KlAt (upd H r (.lst zs)) v k := by
  obtain ⟨a, rfl, ha⟩ := x
  exact ⟨a, rfl, by rw [upd_ne (ne_of ha h (by intro z; cases z))]; exact ha⟩
theorem KlsAt.lst {H : Hp} {xs : List V} {ks : List KeyL} {r : Addr} {ys zs : List V} (x : KlsAt H xs ks) (h : H r = some (.lst ys)) : KlsAt (upd H r (.lst zs)) xs ks := ⟨x.1, fun i v k h1 h2 => (x.2 i v k h1 h2).lst h⟩
theorem KlsAt.snoc {H : Hp} {xs : List V} {ks : List KeyL} {v : V} {k : KeyL} (x : KlsAt H xs ks) (y : KlAt H v k) : KlsAt H (xs ++ [v]) (ks ++ [k]) := ⟨by simp [x.1], fun i w c h1 h2 => by
  by_cases q : i < xs.length
  · rw [List.getElem?_append_left q] at h1
    rw [List.getElem?_append_left (by rw [← x.1]; exact q)] at h2
    exact x.2 i w c h1 h2
  · rw [List.getElem?_append_right (by omega)] at h1
    rw [List.getElem?_append_right (by rw [← x.1]; omega), ← x.1] at h2
    match hj : i - xs.length, h1, h2 with
    | 0, h1, h2 =>
      obtain rfl := (Option.some.inj h1).symm
      obtain rfl := (Option.some.inj h2).symm
      exact y
    | j + 1, h1, h2 => exact absurd h1 (by simp)⟩
theorem KlAt.dt {H : Hp} {v : V} {k : KeyL} {d : Addr} {kvs ls : List (List Key × V)} (x : KlAt H v k) (h : H d = some (.dT kvs)) : KlAt (upd H d (.dT ls)) v k := by
  obtain ⟨a, rfl, ha⟩ := x
  exact ⟨a, rfl, by rw [upd_ne (ne_of ha h (by intro z; cases z))]; exact ha⟩
theorem KlsAt.dt {H : Hp} {xs : List V} {ks : List KeyL} {d : Addr} {kvs ls : List (List Key × V)} (x : KlsAt H xs ks) (h : H d = some (.dT kvs)) : KlsAt (upd H d (.dT ls)) xs ks := ⟨x.1, fun i v k h1 h2 => (x.2 i v k h1 h2).dt h⟩
def PlEL (H : Hp) (d : Addr) (ks : List KeyL) : Prop := ∃ kvs : List (List Key × V), H d = some (.dT kvs) ∧ kvs.length ≤ ks.length ∧ ∀ c : KeyL, valV kvs (kyL c) = if c ∈ ks then some (.int (plE ks c : Nat)) else none
theorem PlEL.get {H : Hp} {d a : Addr} {ks : List KeyL} (h : PlEL H d ks) {c : KeyL} (ha : H a = some (.tup (c.map V.int))) : DGet H d (.ref a) (if c ∈ ks then some (.int (plE ks c : Nat)) else none) := by
  obtain ⟨kvs, h1, h2, h3⟩ := h
  rw [← kyL_kV] at ha
  have g := DGet.t (k := kyL c) h1 ha
  rw [h3 c] at g
  exact g
theorem PlEL.put {H : Hp} {d a : Addr} {ks : List KeyL} (h : PlEL H d ks) {c : KeyL} (ha : H a = some (.tup (c.map V.int))) (hn : c ∉ ks) (hl : ks.length < 1000) : ∃ kvs, DPut H d (.ref a) (.int (ks.length : Nat)) (upd H d (.dT kvs)) ∧ PlEL (upd H d (.dT kvs)) d (ks ++ [c]) := by
  obtain ⟨kvs, h1, h2, h3⟩ := h
  rw [← kyL_kV] at ha
  refine ⟨putK kvs (kyL c) (.int (ks.length : Nat)), DPut.t (k := kyL c) h1 ha (small1000 (by omega)), _, upd_same, ?_, fun e => ?_⟩
  · have := length_putK kvs (kyL c) (V.int (ks.length : Nat))
    rw [List.length_append]
    show _ ≤ ks.length + 1
    omega
  · rw [valV_put]
    by_cases q : e = c
    · subst q
      rw [if_pos rfl, if_pos (by simp), plE_snoc hn]
    · rw [if_neg (fun z => q (kyL_inj z)), h3 e]
      by_cases m : e ∈ ks
      · rw [if_pos m, if_pos (List.mem_append_left _ m), plE_app _ m]
      · rw [if_neg m, if_neg (fun z => by
          rcases List.mem_append.mp z with z | z
          · exact m z
          · exact q (List.mem_singleton.mp z))]
theorem PlEL.same {H H' : Hp} {d : Addr} {ks : List KeyL} (h : PlEL H d ks) (e : Same H H') : PlEL H' d ks := by
  obtain ⟨kvs, h1, h2⟩ := h
  exact ⟨kvs, e _ _ h1, h2⟩
theorem PlEL.ne {H : Hp} {d a : Addr} {ks : List KeyL} {xs : List V} (h : PlEL H d ks) (e : H a = some (.lst xs)) : a ≠ d := by
  obtain ⟨kvs, h1, h2⟩ := h
  exact ne_of e h1 (by intro q; cases q)
theorem PlEL.lst {H : Hp} {d a : Addr} {ks : List KeyL} {xs ys : List V} (h : PlEL H d ks) (e : H a = some (.lst xs)) : PlEL (upd H a (.lst ys)) d ks := by
  have n := h.ne e
  obtain ⟨kvs, h1, h2⟩ := h
  exact ⟨kvs, by rw [upd_ne n.symm]; exact h1, h2⟩
end Tw
namespace Tw
open PySem PySem.Spec PyProof.Rows L2
/-! ### stirring -/
end Tw
namespace Tw
open PySem PySem.Spec PyProof.Rows L2
/-! ### a tuple's [:-1] -/
end Tw
namespace Tw
open PySem PySem.Spec PyProof.Rows L2
/-! ### the product of two machines, told as keys that are explored -/
section
variable {p : Int} {M N : Mach} {s0 : Key2}
end
/-! ### powers -/
structure OvK (p : Int) (M N : Mach) (s0 : Key2) (J : Nat) : Prop where
  go : ∀ i, i < J → i < (keyJ p M N s0 i).length
  gt : 240 < (keyJ p M N s0 J).length
inductive PwOk (p : Int) (B : Mach) (sB : Int) : Nat → Mach → Int → Prop
  | zero : PwOk p B sB 0 B sB
  | succ {i J : Nat} {X : Mach} {sX : Int} : PwOk p B sB i X sX → Done p X B (sX, sB) J → J ≤ 240 → PwOk p B sB (i + 1) (outJ p X B (sX, sB) J) 0
theorem PwOk.one {p : Int} {B : Mach} {sB : Int} {i : Nat} {X : Mach} {sX : Int} (h : PwOk p B sB i X sX) : ∀ {Y : Mach} {sY : Int}, PwOk p B sB i Y sY → X = Y ∧ sX = sY := by
  induction h with
  | zero => intro Y sY g; cases g; exact ⟨rfl, rfl⟩
  | succ h D hJ ih =>
    intro Y sY g
    cases g with
    | succ g D2 hJ2 =>
      obtain ⟨rfl, rfl⟩ := ih g
      obtain rfl := D.one D2
      exact ⟨rfl, rfl⟩
end Tw
namespace Tw
open PySem PySem.Spec PyProof.Rows L2
/-! ### o.m(k = v, ..), keywords alone, that may raise -/
structure MKX (P : Program) (w : World) (K : PySem.W.Frag) (mg : Str → Option Value) (base : Heap) (k : Nat) (C : Addr) (m : Str) (ps ks : List Str) (gV : List V → List V → List V) (sp : Sp) : Prop where
  ex : ∃ f fd g, Meth K C m f ∧ KBn K fd ps 1 ks g gV ∧ FnOk P w K mg base (L2.CX P w) k f fd ps sp
section
variable {P : Program} {w : World} {K : PySem.W.Frag} {mg : Str → Option Value} {base : Heap} {j k : Nat} {X : Cx} {NS WS : List (Str × Nat)} {G : List Str} {m : Str} {C : Addr} {ps ks : List Str} {sp : Sp} {o : Expr} {tk : TA} {ta : TE} {pos apos : Pos} {E : XK} {kws : List Keyword}
end
end Tw
/-! own errors over any built-in base: what T28, T29, T44, T51 say over ValueError -/
namespace L2
open PySem PySem.Spec PyProof.Rows
structure BaseE (B newId initId : String) (bmB : List Value) : Prop where
  base : ExcBaseFacts B newId initId bmB
  store : StoreFacts B bmB "object.__setattr__" "object"
  sup : PySem.W.KxsFacts B initId
structure OexG (newId : String) (bmB : List Value) (K : PySem.W.Frag) (C : Addr) : Prop where
  cls : ∃ nm q N bs bm sn sub ab col dd k0 k1 k2 k3 k5, K.lookup C = some (excClassObj nm q C N bs bm true sn sub ab col dd k0 k1 k2 k3 k5 newId) ∧ PySem.W.excTail bmB bm = true
  sa : PySem.W.findIn K (.ref C) "__setattr__" = some (some (.builtin "object.__setattr__"))
  exC : PySem.W.subIn K (.ref C) (.type "BaseException") = some true
  tyC : PySem.W.typeIn K (.ref C) = some (.type "type")
  kC : PySem.W.keepIn K (.ref C) = true
section
variable {B newId initId : String} {bmB : List Value} {K : PySem.W.Frag} {C : Addr}
end
section
open PySem.W Builtin Builtin.ObjectAttr
variable {prog : Program} {w : World} {A : Around} {R : Result → Shared → Prop} {hp : Heap} {g : Array GenState} {d : Drawn} {t : Nat} {os : OsState} {B newId initId : String} {bmB : List Value} {K : PySem.W.Frag} {name : Str} {tk : Tok} {v : Value} {x C dx : Addr} {fv : Array Value}
end
section
variable {X : Cx} {pins : List (Addr × Obj)} {σ : St} {H : Hp} {s : Shared} {a C dx : Addr} {f : Str} {y : V} {u : Value} {fs : List (Str × V)} {Q : Unit → Shared → Prop} {E : Value → Shared → Prop} {A : Around} {B newId initId : String} {bmB : List Value}
end
section
variable {X : Cx} {o e : Expr} {es : List Expr} {to te : TE} {ta : TA} {f : Str} {p p' pos : Pos} {B newId initId : String} {bmB : List Value}
end
end L2
namespace Tw
open PySem PySem.Spec PyProof.Rows L2
section
variable {CX : CXT} {P : Program} {w : World} {K : PySem.W.Frag} {mg : Str → Option Value} {base : Heap} {N : List Str} {x qual : Str} {st : Stmt} {f C cc cda a : Addr} {fd : FuncData} {A : Around} {outer : List Env} {s0 s : Shared} {H0 H : Hp} {E : XK} {σ : L2.St} {e : Expr} {es : List Expr} {ta : TA} {p0 p1 p2 p3 p4 : Pos} {R : Flow → Shared → Prop} {B newId initId : String} {bmB : List Value}
end
section
variable {CX : CXT} {P : Program} {w : World} {K : PySem.W.Frag} {mg : Str → Option Value} {base : Heap} {N ps : List Str} {x qual : Str} {st : Stmt} {f C cc cda : Addr} {fd : FuncData} {e : Expr} {es : List Expr} {p0 p1 p2 p3 p4 : Pos} {rest : List Stmt} {k : Nat} {sp : Sp} {B newId initId : String} {bmB : List Value}
end
structure KeG (newId : String) (bmB : List Value) (P : Program) (w : World) (K : PySem.W.Frag) (mg : Str → Option Value) (base : Heap) (k : Nat) (x : Str) (C : Addr) (nm : Str) (ps : List Str) (vsOk : List V → Hp → List PyData → Prop) : Prop where
  at_ : mg x = some (.ref C)
  T : OexG newId bmB K C
  ex : ∃ fI fd, PySem.W.findIn K (.ref C) "__init__" = some (some (.ref fI)) ∧ PySem.W.typeIn K (.ref fI) = some (.type "function") ∧ Binds K fd ps [] ∧ FnOk P w K mg base CX0 k fI fd ps (spErr K C nm vsOk)
section
variable {P : Program} {w : World} {K : PySem.W.Frag} {mg : Str → Option Value} {base : Heap} {j k : Nat} {X : Cx} {NS WS : List (Str × Nat)} {G : List Str} {x nm : Str} {C : Addr} {ps : List Str} {vsOk : List V → Hp → List PyData → Prop} {e : Expr} {es : List Expr} {t : TA} {p pos : Pos} {B newId initId : String} {bmB : List Value}
end
end Tw
namespace Tw
open PySem PySem.Spec PyProof.Rows L2
/-! ### zip of a list and a tuple -/
section
variable {P : Program} {w : World} {K : PySem.W.Frag} {mg : Str → Option Value} {base : Heap} {j k : Nat} {X : Cx} {NS WS NS' WS' : List (Str × Nat)} {G G' : List Str} {N : List Str} {scD scope : Scope} {pos spos p : Pos}
end
/-! ### a comprehension whose own name an inner one captures -/
def nmbC (N : List Str) (NS WS : List (Str × Nat)) (G : List Str) (scD scope : Scope) : Bool :=
  nmbB N NS [] G scD scope && WS.all (fun p => decide (N[p.2]? = some p.1) && (decide ((kNames scD scope).lookup p.1 = some .local) || (decide ((kNames scD scope).lookup p.1 = some .cell) && decide (scope.names.lookup p.1 = some .cell))))
section
variable {P : Program} {w : World} {K : PySem.W.Frag} {mg : Str → Option Value} {base : Heap} {j : Nat} {X : Cx} {NS WS NS' WS' : List (Str × Nat)} {G G' : List Str} {N : List Str} {scD scope : Scope} {pos : Pos}
theorem nm_blkC {s : Shared} {H : Hp} {C : Addr} {cl : List (Str × Addr)} {fp : List Addr} (h : Nm P w K mg base j X NS WS G) (eN : X.N = N) (eS : X.env.scope = scD) (hb : nmbC N NS' WS' G' scD scope = true) : Nm P w K mg base j (X.blk s H scope (compEnvC scope cl C X.env) fp) NS' WS' G' := by
  unfold nmbC at hb
  rw [Bool.and_eq_true] at hb
  obtain ⟨h1, h2⟩ := hb
  have z := nm_blk (s := s) (H := H) (C := C) (cl := cl) (fp := fp) h eN eS h1
  have ek : (compEnvC scope cl C X.env).scope.names = kNames scD scope := by
    subst eS
    rfl
  simp only [Bool.and_eq_true, Bool.or_eq_true, decide_eq_true_eq, List.all_eq_true] at h2
  refine ⟨z.ep, z.ew, z.eK, z.em, z.eb, z.room, z.calm, z.nd, z.vis, fun x i hm => ?_, z.gl⟩
  obtain ⟨a, b⟩ := h2 (x, i) hm
  refine ⟨by show X.N[i]? = some x; rw [eN]; exact a, ?_, ?_⟩
  · show (compEnvC scope cl C X.env).scope.names.lookup x = some .local ∨ (compEnvC scope cl C X.env).scope.names.lookup x = some .cell
    rw [ek]
    rcases b with b | b
    · exact .inl b
    · exact .inr b.1
  · rcases b with b | b
    · right
      show (compEnvC scope cl C X.env).scope.names.lookup x = some .local
      rw [ek]; exact b
    · left
      show (scope.names.lookup x == some NameKind.cell) = true
      rw [b.2]; rfl
theorem n_lcXC {elt tg iter : Expr} {own : List (Str × Nat)} {wi : TI} {g : TG} {te : TE} (h : Nm P w K mg base j X NS WS G) (eN : X.N = N) (eS : X.env.scope = scD) (hk : blkC N scD scope own = true) (hb : nmbC N NS' WS' G' scD scope = true) (hi : PI X tg iter wi)
    (hg : ∀ X', Nm P w K mg base j X' NS' WS' G' → PG X' tg g) (he : ∀ X', Nm P w K mg base j X' NS' WS' G' → X'.N = N → X'.env.scope = relS scope scD → PE X' elt te) (hs : ∀ x, foldedSetIterable iter X.env x = pure x := by intro _; rfl) :
    PE X (.ListComp elt [⟨tg, iter, [], 0⟩] scope pos) (tLc wi g tYes te (own.map (·.2))) :=
  pe_lc h.calm h.nd hi (by subst eN eS; exact blkOk_by hk) (fun s H C cl fp => hg _ (nm_blkC h eN eS hb)) (fun _ _ _ _ _ => pts_nil) (fun s H C cl fp => he _ (nm_blkC h eN eS hb) eN (by subst eS; rfl)) hs
end
end Tw
namespace Tw
open PySem PySem.Spec PyProof.Rows L2
/-! ### sorted ints; tuples of ints not in a list of such -/
theorem ne_li3 {K : PySem.W.Frag} {H : Hp} {a b : Addr} {ds es : List Int} {Q : V → Hp → Prop} (ha : H a = some (.lst (ds.map V.int))) (hb : H b = some (.lst (es.map V.int))) (q : Q (.bl (!decide (ds = es))) H) : rNeD K (.ref a) (.ref b) H Q := by
  refine ⟨_, _, .lst (SqL.of ha) (dp_ints ds), .lst (SqL.of hb) (dp_ints es), shaped_l ds, shaped_l es, ?_⟩
  rw [show PyData.eqv (.list (ds.map PyData.int)) (.list (es.map PyData.int)) = decide (ds = es) by rw [PyData.eqv]; exact eqv_ints2 ds es]
  exact q
end Tw
namespace L2
open PySem PySem.Spec PyProof.Rows
section
variable {X : Cx} {pins : List (Addr × Obj)} {σ : St} {H : Hp} {s : Shared} {d : Addr} {o : Obj}
end
section
variable {P : Program} {w : World} {K : PySem.W.Frag} {d : Addr} {o : Obj} {es : Array DictEntry} {ep : Nat}
end
section
variable {X : Cx} {tg e : Expr} {td : TE} {apos cpos : Pos}
/-! ### sum(d.values()), d a dict with tuple keys -/
end
end L2
/-! zip of two tuples whose pairs are kept. What zip.__next__ does while the zip's own tuple is out is a premise here (ZipKept): it is still to be proved -/
namespace RZ
open PySem PySem.Spec PyProof.Rows L2
abbrev IsZf (h : Heap) (z TI TO : Addr) (v : Value) (f : Bool) : Prop :=
  h.get? z = some { cls := .type "zip", dict := none, data := .fields #[v, .bool f, .bool false, .ref TI, .ref TO], slots := #[] }
section
variable {prog : Program} {w : World} {A : Around} {E : Value → Shared → Prop} {s : Shared}
/-- the own tuple of a zip may be out -/
def IsZk (h : Heap) (z TI TO : Addr) : Prop := ∃ v f, IsZf h z TI TO v f ∧ (v = .none ∨ ∃ T : Addr, v = rawInt T)
end
/-- what next does with a zip of two tuples whose own tuple may be out (to be proved) -/
structure ZipKept (prog : Program) (w : World) : Prop where
  item : ∀ {A : Around} {E : Value → Shared → Prop} {s : Shared} {z TI TO i1 i2 l1 l2 : Addr} {k1 k2 : Nat} {xs ys : Array Value} {x y a b : Value} {Q : Option Value → Shared → Prop}, ZipApart z TI TO i1 i2 l1 l2 →
    IsZk s.heap z TI TO → IsPair s.heap TI (.ref i1) (.ref i2) → IsPair s.heap TO a b → s.heap.IsTupleIter i1 l1 k1 → s.heap.IsTupleIter i2 l2 k2 → s.heap.IsTuple l1 xs → s.heap.IsTuple l2 ys → xs[k1]? = some x → ys[k2]? = some y →
    (∀ h', IsZk h' z TI TO → (∃ c d, IsPair h' TO c d) → h'.IsTupleIter i1 l1 (k1 + 1) → h'.IsTupleIter i2 l2 (k2 + 1) → IsPair h' s.heap.objs.size x y → h'.objs.size = s.heap.objs.size + 1 →
      (∀ c o, c ≠ z → c ≠ TO → c ≠ i1 → c ≠ i2 → s.heap.get? c = some o → h'.get? c = some o) → Q (some (.ref s.heap.objs.size)) { s with heap := h' }) → wpAny (model prog w) A (pyNext (.ref z)) Q E s
  done : ∀ {A : Around} {E : Value → Shared → Prop} {s : Shared} {z TI TO i1 i2 l1 l2 : Addr} {k1 k2 : Nat} {xs ys : Array Value} {a b : Value} {Q : Option Value → Shared → Prop}, A.handled = none → ZipApart z TI TO i1 i2 l1 l2 →
    IsZk s.heap z TI TO → IsPair s.heap TI (.ref i1) (.ref i2) → IsPair s.heap TO a b → s.heap.IsTupleIter i1 l1 k1 → s.heap.IsTupleIter i2 l2 k2 → s.heap.IsTuple l1 xs → s.heap.IsTuple l2 ys → (xs[k1]? = none ∨ ys[k2]? = none) →
    (∀ h', (∀ c o, c ≠ z → c ≠ TO → c ≠ i1 → c ≠ i2 → s.heap.get? c = some o → h'.get? c = some o) → Q none { s with heap := h' }) → wpAny (model prog w) A (pyNext (.ref z)) Q E s
end RZ
namespace Tw
open PySem PySem.Spec PyProof.Rows L2
/-! ### a dict of counts by pairs of states -/
def putC (cs : List (Key2 × Int)) (k : Key2) (c : Int) : List (Key2 × Int) := if (cs.any fun e => decide (e.1 = k)) = true then cs.map (fun e => if e.1 = k then (e.1, c) else e) else cs ++ [(k, c)]
theorem anyC_key {k : Key2} {cs : List (Key2 × Int)} : (cs.any fun e => decide (e.1 = k)) = true ↔ k ∈ cs.map (·.1) := by
  rw [List.any_eq_true, List.mem_map]
  constructor
  · rintro ⟨e, h1, h2⟩
    exact ⟨e, h1, of_decide_eq_true h2⟩
  · rintro ⟨e, h1, h2⟩
    exact ⟨e, h1, decide_eq_true h2⟩
theorem putC_keys (cs : List (Key2 × Int)) (k : Key2) (c : Int) : (putC cs k c).map (·.1) = if k ∈ cs.map (·.1) then cs.map (·.1) else cs.map (·.1) ++ [k] := by
  unfold putC
  by_cases q : (cs.any fun e => decide (e.1 = k)) = true
  · rw [if_pos q, if_pos (anyC_key.mp q), List.map_map]
    refine List.map_congr_left fun e _ => ?_
    show (if e.1 = k then (e.1, c) else e).1 = e.1
    split <;> rfl
  · rw [if_neg q, if_neg (fun z => q (anyC_key.mpr z)), List.map_append]; rfl
/-- the pairs are of states of both, each once -/
structure KsOk (M N : Mach) (cs : List (Key2 × Int)) : Prop where
  nd : (cs.map (·.1)).Nodup
  inn : ∀ k ∈ cs.map (·.1), InK M N k
theorem KsOk.len {M N : Mach} {cs : List (Key2 × Int)} (h : KsOk M N cs) : cs.length ≤ M.length * N.length := by
  have := inK_len h.nd h.inn
  rwa [List.length_map] at this
theorem KsOk.put {M N : Mach} {cs : List (Key2 × Int)} (h : KsOk M N cs) {k : Key2} (hk : InK M N k) (c : Int) : KsOk M N (putC cs k c) := by
  constructor
  · rw [putC_keys]
    by_cases q : k ∈ cs.map (·.1)
    · rw [if_pos q]; exact h.nd
    · rw [if_neg q]
      rw [List.nodup_append]
      refine ⟨h.nd, List.nodup_cons.mpr ⟨by simp, List.nodup_nil⟩, fun a ha b hb => ?_⟩
      rw [List.mem_singleton.mp hb]
      intro e
      exact q (e ▸ ha)
  · rw [putC_keys]
    intro x hx
    by_cases q : k ∈ cs.map (·.1)
    · rw [if_pos q] at hx; exact h.inn x hx
    · rw [if_neg q] at hx
      rcases List.mem_append.mp hx with z | z
      · exact h.inn x z
      · rw [List.mem_singleton.mp z]; exact hk
theorem KsOk.nil {M N : Mach} : KsOk M N [] := ⟨List.nodup_nil, fun k h => by cases h⟩
end Tw
namespace Tw
open PySem PySem.Spec PyProof.Rows L2
/-! ### all settings of n dials; those with the same setting behind under two turners -/
end Tw
namespace Tw
open PySem PySem.Spec PyProof.Rows L2
section
variable {P : Program} {w : World} {K : PySem.W.Frag} {mg : Str → Option Value} {base : Heap} {j k : Nat} {X : Cx} {NS WS NS' WS' : List (Str × Nat)} {G G' : List Str} {N : List Str} {scD scope : Scope} {pos spos : Pos}
/-- [elt for tg in iter if c] -/
theorem n_lcI {elt tg iter c : Expr} {own : List (Str × Nat)} {wi : TI} {g : TG} {tt : TT} {te : TE} (h : Nm P w K mg base j X NS WS G) (eN : X.N = N) (eS : X.env.scope = scD) (hk : blkC N scD scope own = true) (hb : nmbB N NS' WS' G' scD scope = true) (hi : PI X tg iter wi)
    (hg : ∀ X', Nm P w K mg base j X' NS' WS' G' → PG X' tg g) (ht : ∀ X', Nm P w K mg base j X' NS' WS' G' → PT X' c tt) (he : ∀ X', Nm P w K mg base j X' NS' WS' G' → PE X' elt te) (hs : ∀ x, foldedSetIterable iter X.env x = pure x := by intro _; rfl) :
    PE X (.ListComp elt [⟨tg, iter, [c], 0⟩] scope pos) (tLc wi g tt te (own.map (·.2))) :=
  pe_lc h.calm h.nd hi (by subst eN eS; exact blkOk_by hk) (fun s H C cl fp => hg _ (nm_blk h eN eS hb)) (fun s H C cl fp => pts_one (ht _ (nm_blk h eN eS hb))) (fun s H C cl fp => he _ (nm_blk h eN eS hb)) hs
end
/-- the numbers below n of which pr is true, none of them changing what is known -/
theorem lc_filt {n i : Nat} {te : TE} {tt : TT} {vs : List Nat} {σ : L2.St} {H1 : Hp} {D : Addr} {Qd : Hp → Prop} {pr : Nat → Bool} (hD : H1 D = none) (hz : n < sizeLine)
    (ht : ∀ (m : Nat) (H : Hp) (R : Bool → Hp → Prop), m < n → Same H1 H → (∀ H', Same H H' → R (pr m) H') → wipe ((wipe σ vs).set i (some (.int (0 + (m : Int))))) vs = wipe σ vs ∧ tt ((wipe σ vs).set i (some (.int (0 + (m : Int))))) H R)
    (he : ∀ (m : Nat) (H : Hp) (Q : V → Hp → Prop), m < n → Same H1 H → Q (.int (m : Int)) H → te ((wipe σ vs).set i (some (.int (0 + (m : Int))))) H Q)
    (hd : ∀ H, Same H1 H → H D = some (.lst ((((List.range n).filter pr).map fun x : Nat => (x : Int)).map V.int)) → Qd H) :
    ∃ W : Nat → Nat → Hp → Prop, (∃ m, W 0 m (upd H1 D (.lst []))) ∧ ∀ i' m H, W i' m H →
      ((Itr 0 n).stop i' H ∧ Qd H) ∨ ((Itr 0 n).go i' H ∧ ∃ Nx : Hp → Prop, (∀ H', Nx H' → ∃ m', m' < m ∧ W (i' + 1) m' H') ∧ ∀ x H', (Itr 0 n).yld i' H x H' → gName i x (wipe σ vs) H' fun σ2 H2 => wipe σ2 vs = wipe σ vs ∧ tt σ2 H2 fun b H3 =>
        if b = true then te σ2 H3 fun y H4 => ∃ acc, H4 D = some (.lst acc) ∧ acc.length < sizeLine ∧ Nx (upd H4 D (.lst (acc ++ [y]))) else Nx H3) := by
  refine lc_range (lo := 0) (n := n) (fun k H => Same H1 H ∧ H D = some (.lst ((((List.range k).filter pr).map fun x : Nat => (x : Int)).map V.int))) ⟨same_new hD, upd_same⟩ (fun k H hk ⟨sH, hDk⟩ => ?_) (fun H ⟨sH, hDk⟩ => hd H sH hDk)
  show wipe _ vs = wipe σ vs ∧ tt _ H _
  have hl : (((List.range k).filter pr).map fun x : Nat => (x : Int)).length < sizeLine := by
    rw [List.length_map]
    have := List.length_filter_le pr (List.range k)
    rw [List.length_range] at this
    omega
  refine ht k H _ hk sH fun H' s' => ?_
  have hD' := s' _ _ hDk
  by_cases c : pr k = true
  · rw [c]
    refine iteT ?_
    refine he k H' _ hk (Same.trans sH s') ⟨_, hD', by rw [List.length_map]; exact hl, same_put (Same.trans sH s') hD, ?_⟩
    rw [upd_same, List.range_succ, List.filter_append, List.map_append, List.map_append, List.filter_cons, if_pos c]; rfl
  · rw [Bool.eq_false_iff.mpr c]
    refine iteF ?_
    refine ⟨Same.trans sH s', ?_⟩
    rw [hD', List.range_succ, List.filter_append, List.filter_cons, if_neg c]
    simp
end Tw
/-! what next does with a zip of two tuples whose own tuple may be out -/
namespace RZ
open PySem PySem.Spec PyProof.Rows L2
section
variable {prog : Program} {w : World} {A : Around} {E : Value → Shared → Prop} {s : Shared}
theorem alive_if {T : Addr} (R : Option Obj → Shared → Prop) (h : R (s.heap.get? T) s) : wpAny (model prog w) A (loadIfAlive T) R E s := fun _ _ _ => h
/-- the own tuple is free: it was never out, or it is gone -/
theorem own_free {z TI TO : Addr} {v : Value} {f : Bool} {Q : Bool → Shared → Prop} (hz : IsZf s.heap z TI TO v f) (hv : v = .none ∨ ∃ T : Addr, v = rawInt T ∧ s.heap.get? T = none) (h : Q true s) : wpAny (model prog w) A (Builtin.SmallTypes.ownedTupleIsFree (.ref z)) Q E s := by
  unfold Builtin.SmallTypes.ownedTupleIsFree
  rcases hv with rfl | ⟨T, rfl, hT⟩
  · exact wpAny_bind (wpAny_field hz rfl (x := .none) rfl (wpAny_pure h))
  · refine wpAny_bind (wpAny_field hz rfl (x := rawInt T) rfl ?_)
    refine wpAny_bind ?_
    rw [Int.toNat_natCast]
    refine alive_if _ ?_
    rw [hT]
    exact wpAny_pure h
/-- the own tuple is out: a new one is to be made -/
theorem own_held {z TI TO T : Addr} {f : Bool} {oT : Obj} {Q : Bool → Shared → Prop} (hz : IsZf s.heap z TI TO (rawInt T) f) (hT : s.heap.get? T = some oT) (h : ∀ p, IsZf p z TI TO (rawInt T) true → Heap.SameBut z s.heap p → Q false { s with heap := p }) : wpAny (model prog w) A (Builtin.SmallTypes.ownedTupleIsFree (.ref z)) Q E s := by
  unfold Builtin.SmallTypes.ownedTupleIsFree
  refine wpAny_bind (wpAny_field hz rfl (x := rawInt T) rfl ?_)
  refine wpAny_bind ?_
  rw [Int.toNat_natCast]
  refine alive_if _ ?_
  rw [hT]
  refine wpAny_ite_false rfl ?_
  refine wpAny_bind (wpAny_field hz rfl (x := .bool f) rfl ?_)
  cases f
  · refine wpAny_ite_true rfl (wpAny_bind (wpAny_setField_rec hz (by simp) fun p q sb => wpAny_pure (h p q sb)))
  · refine wpAny_ite_false rfl (wpAny_pure (h s.heap hz (Heap.SameBut.refl _ _)))
end
end RZ
namespace Tw
open PySem PySem.Spec PyProof.Rows L2
theorem n_piT2 {P : Program} {w : World} {K : PySem.W.Frag} {mg : Str → Option Value} {base : Heap} {jj : Nat} {X : Cx} {NS WS : List (Str × Nat)} {G : List Str} {tg iter : Expr} {ti : TE} (h : Nm P w K mg base jj X NS WS G) (hi : PE X iter ti) : PI X tg iter (iTup K ti) := by
  have q := h.eK
  subst q
  exact pi_tup hi
/-- list(range(n)) -/
theorem n_listRg {P : Program} {w : World} {K : PySem.W.Frag} {mg : Str → Option Value} {base : Heap} {jj : Nat} {X : Cx} {NS WS : List (Str × Nat)} {G : List Str} {p p2 pos pos2 : Pos} {a : Expr} {ta : TE} (h : Nm P w K mg base jj X NS WS G) (m1 : mg "list" = none) (m2 : mg "range" = none) (g1 : ("list" : Str) ∈ G) (g2 : ("range" : Str) ∈ G) (ha : PE X a ta) (na : starEach [a] X.env = (false, eval a X.env) :: starEach [] X.env := by rfl) (nb : starEach [(Expr.Call (.Name "range" p2) [a] [] pos2)] X.env = (false, eval (Expr.Call (.Name "range" p2) [a] [] pos2) X.env) :: starEach [] X.env := by rfl) :
    PE X (.Call (.Name "list" p) [.Call (.Name "range" p2) [a] [] pos2] [] pos) (tLstRg (tRg1 ta)) :=
  pe_listRg h.calm (h.gl _ g1).1 (by rw [h.em]; exact m1) (prg_1 (h.gl _ g2).1 (by rw [h.em]; exact m2) ha na) nb
def rgI (n : Nat) : List Int := (List.range n).map fun x : Nat => (x : Int)
theorem rgV_I (n : Nat) : rgV 0 (n : Int) = (rgI n).map V.int := by
  unfold rgV rgI
  rw [Int.sub_zero, Int.toNat_natCast, List.map_map]
  refine List.map_congr_left fun x _ => ?_
  show V.int (0 + (x : Int)) = V.int (x : Int)
  rw [Int.zero_add]
theorem mem_rgI {n : Nat} {k : Int} : k ∈ rgI n ↔ 0 ≤ k ∧ k < n := by
  unfold rgI
  rw [List.mem_map]
  constructor
  · rintro ⟨x, hx, rfl⟩
    have := List.mem_range.mp hx
    omega
  · rintro ⟨h0, h1⟩
    exact ⟨k.toNat, List.mem_range.mpr (by omega), by omega⟩
theorem rgI_len (n : Nat) : (rgI n).length = n := by unfold rgI; rw [List.length_map, List.length_range]
/-- numbers below n of which a drawn test is true -/
theorem lc_stepI {b l : Addr} {n i : Nat} {te : TE} {tt : TT} {vs : List Nat} {σ : L2.St} {H1 : Hp} {D : Addr} {Qd : Hp → Prop} (hB : Bag H1 b l) (hD : H1 D = none) (hz : n < sizeLine)
    (ht : ∀ (m : Nat) (H : Hp) (R : Bool → Hp → Prop), m < n → Stp b l H1 H → (∀ H' c, Stp b l H H' → R c H') → wipe ((wipe σ vs).set i (some (.int (0 + (m : Int))))) vs = wipe σ vs ∧ tt ((wipe σ vs).set i (some (.int (0 + (m : Int))))) H R)
    (he : ∀ (m : Nat) (H : Hp) (Q : V → Hp → Prop), m < n → Stp b l H1 H → Q (.int (m : Int)) H → te ((wipe σ vs).set i (some (.int (0 + (m : Int))))) H Q)
    (hd : ∀ H (ks : List Int), Stp b l H1 H → H D = some (.lst (ks.map V.int)) → ks.length ≤ n → (∀ k ∈ ks, 0 ≤ k ∧ k < (n : Int)) → Qd H) :
    ∃ W : Nat → Nat → Hp → Prop, (∃ m, W 0 m (upd H1 D (.lst []))) ∧ ∀ i' m H, W i' m H →
      ((Itr 0 n).stop i' H ∧ Qd H) ∨ ((Itr 0 n).go i' H ∧ ∃ Nx : Hp → Prop, (∀ H', Nx H' → ∃ m', m' < m ∧ W (i' + 1) m' H') ∧ ∀ x H', (Itr 0 n).yld i' H x H' → gName i x (wipe σ vs) H' fun σ2 H2 => wipe σ2 vs = wipe σ vs ∧ tt σ2 H2 fun b H3 =>
        if b = true then te σ2 H3 fun y H4 => ∃ acc, H4 D = some (.lst acc) ∧ acc.length < sizeLine ∧ Nx (upd H4 D (.lst (acc ++ [y]))) else Nx H3) := by
  have nDb : D ≠ b := hB.ne hD
  refine lc_range (lo := 0) (n := n) (fun k H => Stp b l H1 H ∧ ∃ ks : List Int, H D = some (.lst (ks.map V.int)) ∧ ks.length ≤ k ∧ ∀ z ∈ ks, 0 ≤ z ∧ z < (k : Int)) ⟨hB.stp.add hD, [], upd_same, Nat.le_refl _, fun z hz => absurd hz (by simp)⟩ (fun k H hk ⟨sH, ks, hDk, hl, hm⟩ => ?_) (fun H ⟨sH, ks, hDk, hl, hm⟩ => hd H ks sH hDk hl hm)
  show wipe _ vs = wipe σ vs ∧ tt _ H _
  refine ht k H _ hk sH fun H' c s' => ?_
  have hD' := s'.1 _ _ nDb hDk
  cases c
  · refine iteF ?_
    exact ⟨sH.trans s', ks, hD', by omega, fun z hz => ⟨(hm z hz).1, by have := (hm z hz).2; omega⟩⟩
  · refine iteT ?_
    refine he k H' _ hk (sH.trans s') ⟨_, hD', by rw [List.length_map]; omega, (sH.trans s').put hB hD, ks ++ [(k : Int)], by rw [upd_same, List.map_append]; rfl, by rw [List.length_append]; show ks.length + 1 ≤ k + 1; omega, fun z hz => ?_⟩
    rcases List.mem_append.mp hz with h | h
    · exact ⟨(hm z h).1, by have := (hm z h).2; omega⟩
    · rw [List.mem_singleton.mp h]; omega
/-- numbers drawn, one for each item -/
theorem lc_stepS {b l : Addr} {J : It} {xs : List V} {R : Nat → Int → Prop} {g : TG} {te : TE} {vs : List Nat} {σ : L2.St} {H1 : Hp} {D : Addr} {Qd : Hp → Prop} (hB : Bag H1 b l) (hj : SeqJ J (Stp b l H1) xs) (hD : H1 D = none) (hz : xs.length < sizeLine)
    (he : ∀ (j : Nat) x H (Qk : V → Hp → Prop), xs[j]? = some x → Stp b l H1 H → (∀ H2 d, Stp b l H H2 → R j d → Qk (.int d) H2) → g x (wipe σ vs) H fun σ2 H2 => wipe σ2 vs = wipe σ vs ∧ te σ2 H2 Qk)
    (hd : ∀ H' (ds : List Int), Stp b l H1 H' → H' D = some (.lst (ds.map V.int)) → ds.length = xs.length → (∀ (j : Nat) d, ds[j]? = some d → R j d) → Qd H')
    (hgm : ∀ v σ H (A B : L2.St → Hp → Prop), (∀ σ H, A σ H → B σ H) → g v σ H A → g v σ H B) :
    ∃ W : Nat → Nat → Hp → Prop, (∃ m, W 0 m (upd H1 D (.lst []))) ∧ ∀ i' m H, W i' m H →
      (J.stop i' H ∧ Qd H) ∨ (J.go i' H ∧ ∃ Nx : Hp → Prop, (∀ H', Nx H' → ∃ m', m' < m ∧ W (i' + 1) m' H') ∧ ∀ x H', J.yld i' H x H' → g x (wipe σ vs) H' fun σ2 H2 => wipe σ2 vs = wipe σ vs ∧ tYes σ2 H2 fun b H3 =>
        if b = true then te σ2 H3 fun y H4 => ∃ acc, H4 D = some (.lst acc) ∧ acc.length < sizeLine ∧ Nx (upd H4 D (.lst (acc ++ [y]))) else Nx H3) := by
  have nDb : D ≠ b := hB.ne hD
  refine ⟨fun j m H => m = xs.length - j ∧ j ≤ xs.length ∧ Stp b l H1 H ∧ ∃ ds : List Int, H D = some (.lst (ds.map V.int)) ∧ ds.length = j ∧ ∀ (k : Nat) d, ds[k]? = some d → R k d, ⟨xs.length, rfl, Nat.zero_le _, hB.stp.add hD, [], upd_same, rfl, fun k d h => by simp at h⟩, ?_⟩
  rintro j m H ⟨rfl, hj', s1, ds, hDl, hl, hR⟩
  by_cases c : j < xs.length
  · have hx : xs[j]? = some xs[j] := List.getElem?_eq_getElem c
    refine .inr ⟨hj.go H j _ s1 hx, fun H' => Stp b l H1 H' ∧ ∃ ds : List Int, H' D = some (.lst (ds.map V.int)) ∧ ds.length = j + 1 ∧ ∀ (k : Nat) d, ds[k]? = some d → R k d, fun H' p => ⟨xs.length - (j + 1), by omega, rfl, c, p⟩, ?_⟩
    intro v H' hyl
    obtain ⟨rfl, ex⟩ := hj.yl H j v H' s1 hyl
    refine hgm _ _ _ _ _ (fun σ2 H2 p => ⟨p.1, yes_ p.2⟩) (he j v _ _ ex s1 fun H2 d s2 r2 => ⟨_, s2.1 _ _ nDb hDl, ?_, (s1.trans s2).put hB hD, ds ++ [d], ?_, ?_, fun k e hk => ?_⟩)
    · rw [List.length_map]; omega
    · rw [upd_same, List.map_append]; rfl
    · rw [List.length_append, hl]; rfl
    · by_cases ck : k < ds.length
      · rw [List.getElem?_append_left ck] at hk
        exact hR k e hk
      · rw [List.getElem?_append_right (by omega)] at hk
        have e0 : k - ds.length = 0 := by
          rcases Nat.eq_zero_or_pos (k - ds.length) with e | e
          · exact e
          · rw [List.getElem?_eq_none (by simp; omega)] at hk; cases hk
        rw [e0] at hk
        obtain rfl := Option.some.inj hk
        rw [show k = j by omega]; exact r2
  · have e : j = xs.length := by omega
    subst e
    exact .inl ⟨hj.stop H s1, hd H ds s1 hDl hl hR⟩
/-! ### a machine some of whose states stand twice -/
/-- the state at place j of N is a copy of the state os[j] of M -/
structure DbRow (M : Mach) (os : List Int) (s' s : Int × List Int) : Prop where
  turn : s'.1 = s.1
  len : s'.2.length = s.2.length
  inn : ∀ g ∈ s'.2, 0 ≤ g ∧ g < (os.length : Int)
  own : ∀ (c : Nat) g g', s'.2[c]? = some g' → s.2[c]? = some g → os[g'.toNat]? = some g
structure DbOf (M : Mach) (st : Int) (N : Mach) (sd : Int) (os : List Int) : Prop where
  len : N.length = os.length
  inn : ∀ o ∈ os, 0 ≤ o ∧ o < (M.length : Int)
  row : ∀ (j : Nat) s' o, N[j]? = some s' → os[j]? = some o → DbRow M os s' (M.getD o.toNat (0, []))
  st0 : 0 ≤ sd
  start : os[sd.toNat]? = some st
end Tw
namespace Tw
open PySem PySem.Spec PyProof.Rows L2
/-- [x for x in .. if ..]: what is read stays, the items of which the test is true are kept -/
theorem lc_filtL {J : It} {xs : List V} {pr : Nat → Bool} {g : TG} {te : TE} {tt : TT} {vs : List Nat} {σ : L2.St} {H1 : Hp} {D : Addr} {Qd : Hp → Prop} (hj : SeqJ J (Same H1) xs) (hD : H1 D = none) (hz : xs.length < sizeLine)
    (he : ∀ (j : Nat) x H (Qy : V → Hp → Prop) (Qn : Hp → Prop), xs[j]? = some x → Same H1 H → (pr j = true → ∀ H', Same H H' → Qy x H') → (pr j = false → ∀ H', Same H H' → Qn H') → g x (wipe σ vs) H fun σ2 H2 => wipe σ2 vs = wipe σ vs ∧ tt σ2 H2 fun b H3 => if b = true then te σ2 H3 Qy else Qn H3)
    (hd : ∀ ys H', Same H1 H' → H' D = some (.lst ys) → ys.length = ((List.range xs.length).filter pr).length → Qd H') :
    ∃ W : Nat → Nat → Hp → Prop, (∃ m, W 0 m (upd H1 D (.lst []))) ∧ ∀ i' m H, W i' m H →
      (J.stop i' H ∧ Qd H) ∨ (J.go i' H ∧ ∃ Nx : Hp → Prop, (∀ H', Nx H' → ∃ m', m' < m ∧ W (i' + 1) m' H') ∧ ∀ x H', J.yld i' H x H' → g x (wipe σ vs) H' fun σ2 H2 => wipe σ2 vs = wipe σ vs ∧ tt σ2 H2 fun b H3 =>
        if b = true then te σ2 H3 fun y H4 => ∃ acc, H4 D = some (.lst acc) ∧ acc.length < sizeLine ∧ Nx (upd H4 D (.lst (acc ++ [y]))) else Nx H3) := by
  refine ⟨fun j m H => m = xs.length - j ∧ j ≤ xs.length ∧ Same H1 H ∧ ∃ ys, H D = some (.lst ys) ∧ ys.length = ((List.range j).filter pr).length, ⟨xs.length, rfl, Nat.zero_le _, same_new hD, [], upd_same, rfl⟩, ?_⟩
  rintro j m H ⟨rfl, hj', s1, ys, hDl, hl⟩
  by_cases c : j < xs.length
  · have hx : xs[j]? = some xs[j] := List.getElem?_eq_getElem c
    refine .inr ⟨hj.go H j _ s1 hx, fun H' => Same H1 H' ∧ ∃ ys, H' D = some (.lst ys) ∧ ys.length = ((List.range (j + 1)).filter pr).length, fun H' p => ⟨xs.length - (j + 1), by omega, rfl, c, p⟩, ?_⟩
    intro v H' hyl
    obtain ⟨rfl, ex⟩ := hj.yl H j v H' s1 hyl
    refine he j v _ _ _ ex s1 (fun hp H2 s2 => ⟨_, s2 _ _ hDl, ?_, same_put (Same.trans s1 s2) hD, _, upd_same, ?_⟩) (fun hp H2 s2 => ⟨Same.trans s1 s2, _, s2 _ _ hDl, ?_⟩)
    · have := List.length_filter_le pr (List.range j)
      rw [List.length_range] at this
      omega
    · rw [List.length_append, hl, List.range_succ, List.filter_append, List.length_append, List.filter_cons, if_pos hp]; rfl
    · rw [hl, List.range_succ, List.filter_append, List.length_append, List.filter_cons, if_neg (by rw [hp]; decide)]; rfl
  · have e : j = xs.length := by omega
    subst e
    exact .inl ⟨hj.stop H s1, hd ys H s1 hDl hl⟩
end Tw
namespace Tw
open PySem PySem.Spec PyProof.Rows L2
/-! ### settings that stay, counted from the last dial down -/
def stM (p : Int) (M : Mach) : Nat → Int → Int
  | 0, _ => 1
  | n + 1, s => if turnM M s = 0 then ((List.range p.toNat).map fun x : Nat => stM p M n (goM M s (x : Nat))).sum else 0
theorem sum_nonneg {l : List Int} (h : ∀ x ∈ l, 0 ≤ x) : 0 ≤ l.sum := by
  induction l with
  | nil => exact Int.le_refl 0
  | cons a r ih =>
    rw [List.sum_cons]
    have := h a List.mem_cons_self
    have := ih fun x hx => h x (List.mem_cons_of_mem _ hx)
    omega
theorem sum_pos_iff : ∀ {l : List Int}, (∀ x ∈ l, 0 ≤ x) → (0 < l.sum ↔ ∃ x ∈ l, 0 < x)
  | [], _ => ⟨fun h => absurd h (by decide), fun ⟨x, hx, _⟩ => by cases hx⟩
  | a :: r, h => by
    rw [List.sum_cons]
    have h1 := h a List.mem_cons_self
    have h2 : ∀ x ∈ r, 0 ≤ x := fun x hx => h x (List.mem_cons_of_mem _ hx)
    have h3 := sum_nonneg h2
    have ih := sum_pos_iff h2
    constructor
    · intro h4
      by_cases c : 0 < a
      · exact ⟨a, List.mem_cons_self, c⟩
      · obtain ⟨x, hx, hp⟩ := ih.mp (by omega)
        exact ⟨x, List.mem_cons_of_mem _ hx, hp⟩
    · rintro ⟨x, hx, hp⟩
      rcases List.mem_cons.mp hx with rfl | hx
      · omega
      · have := ih.mpr ⟨x, hx, hp⟩
        omega
theorem stM_nonneg {p : Int} {M : Mach} : ∀ (n : Nat) (s : Int), 0 ≤ stM p M n s
  | 0, _ => by show (0 : Int) ≤ 1; decide
  | n + 1, s => by
    show 0 ≤ if turnM M s = 0 then _ else _
    split
    · exact sum_nonneg fun x hx => by
        obtain ⟨y, _, rfl⟩ := List.mem_map.mp hx
        exact stM_nonneg n _
    · exact Int.le_refl 0
theorem stM_pos {p : Int} {M : Mach} {n : Nat} {s : Int} : 0 < stM p M (n + 1) s ↔ turnM M s = 0 ∧ ∃ x : Nat, x < p.toNat ∧ 0 < stM p M n (goM M s (x : Nat)) := by
  show (0 < if turnM M s = 0 then _ else _) ↔ _
  by_cases c : turnM M s = 0
  · rw [if_pos c, sum_pos_iff fun x hx => by
      obtain ⟨y, _, rfl⟩ := List.mem_map.mp hx
      exact stM_nonneg n _]
    constructor
    · rintro ⟨z, hz, hp⟩
      obtain ⟨x, hx, rfl⟩ := List.mem_map.mp hz
      exact ⟨c, x, List.mem_range.mp hx, hp⟩
    · rintro ⟨_, x, hx, hp⟩
      exact ⟨_, List.mem_map.mpr ⟨x, List.mem_range.mpr hx, rfl⟩, hp⟩
  · rw [if_neg c]
    exact ⟨fun h => absurd h (by decide), fun h => absurd h.1 c⟩
/-- the least tuple that stays -/
structure FsOk (p : Int) (M : Mach) (st : Int) (n i : Nat) (ds : List Int) : Prop where
  figs : ∀ d ∈ ds, 0 ≤ d ∧ d < p
  len : ds.length = i
  pos : 0 < stM p M (n - i) (runM M st ds)
  zero : ∀ at', at' < i → turnM M (runM M st (ds.take at')) = 0
  least : ∀ (at' : Nat) (d : Int) (x : Nat), ds[at']? = some d → (x : Int) < d → ¬ 0 < stM p M (n - at' - 1) (goM M (runM M st (ds.take at')) (x : Nat))
theorem FsOk.nil {p : Int} {M : Mach} {st : Int} {n : Nat} (h : 0 < stM p M n st) : FsOk p M st n 0 [] :=
  ⟨fun d hd => (by cases hd), rfl, h, fun k hk => absurd hk (Nat.not_lt_zero k), fun k d x hk _ => (by cases hk)⟩
theorem FsOk.snoc {p : Int} {M : Mach} {st : Int} {n i : Nat} {ds : List Int} (h : FsOk p M st n i ds) (hi : i < n) {x : Nat} (hx : (x : Int) < p) (hp : 0 < stM p M (n - i - 1) (goM M (runM M st ds) (x : Nat))) (hl : ∀ y, y < x → ¬ 0 < stM p M (n - i - 1) (goM M (runM M st ds) (y : Nat))) : FsOk p M st n (i + 1) (ds ++ [(x : Int)]) := by
  have hlen := h.len
  have hz : turnM M (runM M st ds) = 0 := by
    have := h.pos
    rw [show n - i = (n - i - 1) + 1 by omega] at this
    exact (stM_pos.mp this).1
  refine ⟨fun d hd => ?_, by rw [List.length_append, h.len]; rfl, ?_, fun k hk => ?_, fun k d y hk hy => ?_⟩
  · rcases List.mem_append.mp hd with q | q
    · exact h.figs d q
    · rw [List.mem_singleton.mp q]; omega
  · rw [runM_snoc, show n - (i + 1) = n - i - 1 by omega]; exact hp
  · by_cases c : k < i
    · rw [List.take_append_of_le_length (by omega)]
      exact h.zero k c
    · obtain rfl : k = i := by omega
      rw [List.take_append_of_le_length (by omega), ← hlen, List.take_length]
      exact hz
  · by_cases c : k < ds.length
    · rw [List.getElem?_append_left c] at hk
      rw [List.take_append_of_le_length (by omega)]
      exact h.least k d y hk hy
    · rw [List.getElem?_append_right (by omega)] at hk
      have e0 : k - ds.length = 0 := by
        rcases Nat.eq_zero_or_pos (k - ds.length) with e | e
        · exact e
        · rw [List.getElem?_eq_none (by simp; omega)] at hk; cases hk
      rw [e0] at hk
      obtain rfl := Option.some.inj hk
      obtain rfl : k = i := by omega
      rw [List.take_append_of_le_length (by omega), ← hlen, List.take_length]
      rw [hlen]
      exact hl y (by omega)
end Tw
namespace Tw
open PySem PySem.Spec PyProof.Rows L2
end Tw
namespace Tw
open PySem PySem.Spec PyProof.Rows L2
end Tw
/-! sorted(xs), xs any number of tuples of ints that are all of one length -/
namespace RS
open PySem PySem.Spec PyProof.Rows L2
section
variable {prog : Program} {w : World} {A : Around} {s : Shared}
end
end RS
namespace Tw
open PySem PySem.Spec PyProof.Rows L2
end Tw
namespace Tw
open PySem PySem.Spec PyProof.Rows L2
/-- as lc_filtL, with the items -/
theorem lc_filtV {J : It} {xs : List V} {pr : Nat → Bool} {g : TG} {te : TE} {tt : TT} {vs : List Nat} {σ : L2.St} {H1 : Hp} {D : Addr} {Qd : Hp → Prop} (hj : SeqJ J (Same H1) xs) (hD : H1 D = none) (hz : xs.length < sizeLine)
    (he : ∀ (j : Nat) x H (Qy : V → Hp → Prop) (Qn : Hp → Prop), xs[j]? = some x → Same H1 H → (pr j = true → ∀ H', Same H H' → Qy x H') → (pr j = false → ∀ H', Same H H' → Qn H') → g x (wipe σ vs) H fun σ2 H2 => wipe σ2 vs = wipe σ vs ∧ tt σ2 H2 fun b H3 => if b = true then te σ2 H3 Qy else Qn H3)
    (hd : ∀ H', Same H1 H' → H' D = some (.lst (((List.range xs.length).filter pr).map fun j => xs.getD j .non)) → Qd H') :
    ∃ W : Nat → Nat → Hp → Prop, (∃ m, W 0 m (upd H1 D (.lst []))) ∧ ∀ i' m H, W i' m H →
      (J.stop i' H ∧ Qd H) ∨ (J.go i' H ∧ ∃ Nx : Hp → Prop, (∀ H', Nx H' → ∃ m', m' < m ∧ W (i' + 1) m' H') ∧ ∀ x H', J.yld i' H x H' → g x (wipe σ vs) H' fun σ2 H2 => wipe σ2 vs = wipe σ vs ∧ tt σ2 H2 fun b H3 =>
        if b = true then te σ2 H3 fun y H4 => ∃ acc, H4 D = some (.lst acc) ∧ acc.length < sizeLine ∧ Nx (upd H4 D (.lst (acc ++ [y]))) else Nx H3) := by
  refine ⟨fun j m H => m = xs.length - j ∧ j ≤ xs.length ∧ Same H1 H ∧ H D = some (.lst (((List.range j).filter pr).map fun j => xs.getD j .non)), ⟨xs.length, rfl, Nat.zero_le _, same_new hD, upd_same⟩, ?_⟩
  rintro j m H ⟨rfl, hj', s1, hDl⟩
  by_cases c : j < xs.length
  · have hx : xs[j]? = some xs[j] := List.getElem?_eq_getElem c
    refine .inr ⟨hj.go H j _ s1 hx, fun H' => Same H1 H' ∧ H' D = some (.lst (((List.range (j + 1)).filter pr).map fun j => xs.getD j .non)), fun H' p => ⟨xs.length - (j + 1), by omega, rfl, c, p⟩, ?_⟩
    intro v H' hyl
    obtain ⟨rfl, ex⟩ := hj.yl H j v H' s1 hyl
    refine he j v _ _ _ ex s1 (fun hp H2 s2 => ⟨_, s2 _ _ hDl, ?_, same_put (Same.trans s1 s2) hD, ?_⟩) (fun hp H2 s2 => ⟨Same.trans s1 s2, ?_⟩)
    · have := List.length_filter_le pr (List.range j)
      rw [List.length_range] at this
      rw [List.length_map]
      omega
    · rw [upd_same, List.range_succ, List.filter_append, List.map_append, List.filter_cons, if_pos hp]
      show some (HO.lst (_ ++ [v])) = some (HO.lst (_ ++ [xs.getD j .non]))
      rw [List.getD_eq_getElem?_getD, ex]; rfl
    · rw [s2 _ _ hDl, List.range_succ, List.filter_append, List.map_append, List.filter_cons, if_neg (by rw [hp]; decide)]
      simp
  · have e : j = xs.length := by omega
    subst e
    exact .inl ⟨hj.stop H s1, hd H s1 hDl⟩
end Tw
/-! sorted(set(xs)), xs a list of ints -/
namespace RI
open PySem PySem.Spec PyProof.Rows L2
section
variable {P : Program} {w : World} {A : Around} {E : Value → Shared → Prop} {s : Shared}
end
end RI
namespace Tw
open PySem PySem.Spec PyProof.Rows L2
end Tw
namespace Tw
open PySem PySem.Spec PyProof.Rows L2
/-! ### where a setting that stays may be behind so many dials -/
/-! ### a way longer than there are states has no end -/
/-! ### a way of stairs -/
end Tw
namespace Tw
open PySem PySem.Spec PyProof.Rows L2
section
variable {P : Program} {w : World} {K : PySem.W.Frag} {mg : Str → Option Value} {base : Heap} {j : Nat} {X : Cx} {NS WS NS' WS' : List (Str × Nat)} {G G' : List Str} {N : List Str} {scD scope : Scope} {pos spos : Pos}
end
end Tw
namespace Tw
open PySem PySem.Spec PyProof.Rows L2
end Tw
namespace Tw
open PySem PySem.Spec PyProof.Rows L2 LamX NdefX
/-! ### lambdas made in a comprehension: its own cells are lent -/
structure LentOfB (ys : List Str) (ce : List (Str × Addr)) (N : List Str) (sc : Scope) (σ : L2.St) (cs : Cells) (H : Hp) : Prop where
  free : ∀ b o, cs.lookup b = some o → H b = none
  all : ∀ y c, y ∈ ys → ce.lookup y = some c → ∃ o v, cs.lookup c = some o ∧ o.data = .cell v
  inj : ∀ x y c, ce.lookup x = some c → ce.lookup y = some c → x = y
  val : ∀ (i : Nat) (y : Str) (v : V), N[i]? = some y → σ[i]? = some (some v) → y ∈ ys → sc.names.lookup y = some .cell → ∃ c o u, ce.lookup y = some c ∧ cs.lookup c = some o ∧ o.data = .cell (some u) ∧ L2.RelV v u
  has : ∀ y, sc.names.lookup y = some .cell → ∃ c, ce.lookup y = some c
section
variable {X : Cx} {pins : List (Addr × Obj)} {σ : L2.St} {H : Hp} {s : Shared} {ys : List Str}
end
section
variable {P : Program} {w : World} {K : PySem.W.Frag} {mg : Str → Option Value} {base : Heap} {j k : Nat} {X : Cx} {NS WS NS' WS' : List (Str × Nat)} {G G' N : List Str} {scD scope : Scope} {x : Str} {ps ys : List Str} {sp : Sp} {e : Expr} {es : List Expr} {t : TA} {p pos : Pos}
end
/-! ### comprehensions where code tables grow -/
end Tw
namespace Tw
open PySem PySem.Spec PyProof.Rows L2
/-! ### a comprehension whose items may raise -/
section
variable {X : Cx} {pins : List (Addr × Obj)} {σ : L2.St} {H : Hp} {s s' : Shared} {E : XK} {ce : Env} {m : Str → Option Value}
end
/-! the block of a comprehension, seen from its def -/
section
variable {X : Cx} {pins q : List (Addr × Obj)} {σ τ : L2.St} {H3 H : Hp} {s3 s : Shared} {scope : Scope} {ce : Env} {fp : List Addr} {E : XK}
/-- where a turn begins -/
structure AtTurn (X' : Cx) (τ : L2.St) (tn : Nat → Heap → Prop) (fp : List Addr) (i : Nat) (H : Hp) (s : Shared) : Prop where
  inv : Inv X' [] τ H s
  at_ : tn i s.heap
  out : ∀ b ∈ fp, H b = none
/-- the next turn begins: the iterator's objects, pinned, are as they were -/
theorem AtTurn.next {X' : Cx} {P : Program} {w : World} {K : PySem.W.Frag} {tg : Expr} {J : It} {it : Addr} {tn : Nat → Heap → Prop} {i : Nat} {τ2 : L2.St} {vs : List Nat} {h7 : Heap} (T : Turn P w K tg J fp it tn) (h : tn i h7) (hw : wipe τ2 vs = τ) (I : Inv X' ([] ++ pinsAt fp h7) τ2 H s) : AtTurn X' τ tn fp i H s := by
  have kept : ∀ b ∈ fp, ∀ o, h7.get? b = some o → s.heap.get? b = some o ∧ H b = none := fun b hb o e => by
    have z := I.pin (b, o) (List.mem_append_right _ (List.mem_append_right _ (mem_pinsAt hb e)))
    exact ⟨z.1, z.2.1⟩
  refine ⟨?_, T.keep _ _ _ h fun b hb o e => (kept b hb o e).1, fun b hb => ?_⟩
  · subst hw
    exact (I.unpinned (pins := [])).weak (wipe_length _ _) fun j v e => (wipe_some e).1
  · obtain ⟨o, e, _⟩ := T.obj _ _ h b hb
    exact (kept b hb o e).2
end
section
variable {X : Cx}
end
end Tw
namespace Tw
open PySem PySem.Spec PyProof.Rows L2 TL
/-! ### comprehensions whose items may raise, by names -/
section
variable {P : Program} {w : World} {K : PySem.W.Frag} {mg : Str → Option Value} {base : Heap} {j k : Nat} {X : Cx} {NS WS NS' WS' : List (Str × Nat)} {G G' N : List Str} {scD scope : Scope} {x : Str} {ps : List Str} {sp : Sp} {e : Expr} {es : List Expr} {t : TA} {p pos : Pos} {E : XK}
end
/-! ### letters of words -/
/-! the sign behind a letter -/
end Tw
namespace Tw
open PySem PySem.Spec PyProof.Rows L2 TL
end Tw
namespace Tw
open PySem PySem.Spec PyProof.Rows L2
end Tw
namespace Tw
open PySem PySem.Spec PyProof.Rows L2
/-- a def that may raise, called by keywords alone -/
structure DxK (P : Program) (w : World) (K : PySem.W.Frag) (mg : Str → Option Value) (base : Heap) (k : Nat) (x : Str) (ps ks : List Str) (gV : List V → List V → List V) (sp : Sp) : Prop where
  ex : ∃ f fd, ∃ g : List Value → List Value → List Value, mg x = some (.ref f) ∧ PySem.W.keepIn K (.ref f) = true ∧ KBn K fd ps 0 ks g gV ∧ FnOk P w K mg base (L2.CX P w) k f fd ps sp
end Tw
namespace Tw
open PySem PySem.Spec PyProof.Rows L2
/-! ### errors that are made and kept: the value, its fields -/
/-- an error of the class cls that was made and not raised, with its dict -/
def erO (a : Addr) (cls : Value) (d : Option Addr) : HO := .ext fun h => ∃ (oe : Obj) (vs : Array Value), h.get? a = some oe ∧ Zc cls d oe ∧ oe.data = .fields vs
end Tw
namespace PySem
namespace ErK
open PySem.W PySem.Calls PyProof.Rows PySem.HandSPX
/-! ### an own error class called by keywords alone -/
section
variable {M : Model} {prog : Program} {w : World} {A : Around} {E : Value → Shared → Prop} {R : Result → Shared → Prop} {h : Heap} {g : Array GenState} {d : Drawn} {t : Nat} {os : OsState}
variable {nm q : Str} {C N : Addr} {bs bm bmB : List Value} {hdct : Bool} {sn : List Str} {sub : List Value} {ab : Bool} {col : Option Bool} {dd : Option Addr} {k0 k1 k2 k3 k5 : Option Value} {B newId initId : String} {kw : List (Str × Value)}
end
end ErK
end PySem
namespace Tw
open PySem PySem.Spec PyProof.Rows L2
/-- an own error class whose instances are made as the built-in ones are -/
structure ClsE (K : PySem.W.Frag) (C : Addr) : Prop where
  ex : ∃ (B newId initId : String) (bmB : List Value), ExcBaseFacts B newId initId bmB ∧ ∃ nm q N bs bm sn sub ab col dd k0 k1 k2 k3 k5, K.lookup C = some (excClassObj nm q C N bs bm true sn sub ab col dd k0 k1 k2 k3 k5 newId) ∧ ∀ Y : String, bm.contains (.type Y) = bmB.contains (.type Y)
  exC : PySem.W.subIn K (.ref C) (.type "BaseException") = some true
  tyC : PySem.W.typeIn K (.ref C) = some (.type "type")
  kC : PySem.W.keepIn K (.ref C) = true
/-- the promise of an error's __init__: what its dict holds, told by R -/
def spErX (C : Addr) (R : List PyData → Hp → List (Str × V) → Prop) (vsOk : List V → Hp → List PyData → Prop) : Sp := fun vs H Q _ => ∃ (a : Addr) (ws : List V) (ds : List PyData), vs = .ref a :: ws ∧ H a = some (exo a C none) ∧ vsOk ws (butD a H) ds ∧
  ∀ (H' : Hp) (dx : Addr) (fs : List (Str × V)), (∀ b o, b ≠ a → H b = some o → H' b = some o) → H dx = none → H' a = some (exo a C (some dx)) → H' dx = some (exd dx fs) → R ds (butD dx (butD a (newOf H H'))) fs → Q .non H'
structure KeX (P : Program) (w : World) (K : PySem.W.Frag) (mg : Str → Option Value) (base : Heap) (k : Nat) (x : Str) (C : Addr) (ps : List Str) (ka : Option Str) (R : List PyData → Hp → List (Str × V) → Prop) (vsOk : List V → Hp → List PyData → Prop) : Prop where
  at_ : mg x = some (.ref C)
  T : ClsE K C
  xf : XfC K C
  mono : ∀ ds H H' fs, Same H H' → R ds H fs → R ds H' fs
  ex : ∃ fI fd, PySem.W.findIn K (.ref C) "__init__" = some (some (.ref fI)) ∧ PySem.W.typeIn K (.ref fI) = some (.type "function") ∧ FnOk P w K mg base CX0 k fI fd ps (spErX C R vsOk) ∧ Binds K fd ps [] ∧ ∀ A, ka = some A → ∃ g : List Value → List Value → List Value, KBn K fd ps 1 [A] g (fun us zs => us ++ zs)
/-- what is wanted of an error that is kept -/
theorem kex_valE {C : Addr} {R : List PyData → Hp → List (Str × V) → Prop} {vsOk : List V → Hp → List PyData → Prop} {vs : List V} {H1 : Hp} {ds : List PyData} {E : XK} (hm : ∀ ds H H' fs, Same H H' → R ds H fs → R ds H' fs) (hl : vs.length ≤ 1000) (hv : vsOk vs H1 ds)
    (hE : ∀ (H' : Hp) (dd : Addr) (fs : List (Str × V)), (∀ b, H' b = none → Same H1 (upd H' b (erO b (.ref C) (some dd))) ∧ upd H' b (erO b (.ref C) (some dd)) dd = some (.xd fs) ∧ R ds (upd H' b (erO b (.ref C) (some dd))) fs) → E (.ref C) (some dd) H') :
    vs.length ≤ 1000 ∧ ∀ a, H1 a = none → spErX C R vsOk (.ref a :: vs) (upd H1 a (exo a C none)) (keEnd C a H1 E) (fun _ _ _ => False) := by
  refine ⟨hl, fun a na => ⟨a, vs, ds, rfl, upd_same, by rw [butD_free na]; exact hv, fun H' dx fs hs hdx ha hd hR => ?_⟩⟩
  have ndx : dx ≠ a := fun z => by rw [z, upd_same] at hdx; cases hdx
  rw [upd_ne ndx] at hdx
  refine ⟨rfl, dx, fs, ha, hd, hdx, hE _ _ fs fun b hb => ?_⟩
  have nb : ∀ {u : Addr} {o : HO}, upd (del H' a) dx (.xd fs) u = some o → u ≠ b := fun {u o} z => ne_of_none z hb
  have s1 : ∀ u o, H1 u = some o → upd (del H' a) dx (.xd fs) u = some o := fun u o z => by
    have n1 : u ≠ a := ne_of_none z na
    rw [upd_ne (ne_of_none z hdx), del_ne n1]
    exact hs u o n1 (by rw [upd_ne n1]; exact z)
  refine ⟨fun u o z => ?_, ?_, hm _ _ _ _ (fun u o z => ?_) hR⟩
  · rw [upd_ne (nb (s1 u o z))]
    exact s1 u o z
  · rw [upd_ne (nb (u := dx) upd_same), upd_same]
  · unfold butD at z
    split at z
    · cases z
    · rename_i n2
      split at z
      · cases z
      · rename_i n1
        have z4 : upd (del H' a) dx (.xd fs) u = some o := by
          rw [upd_ne n2, del_ne n1]
          exact newOf_same _ _ z
        rw [upd_ne (nb z4)]
        exact z4
section
variable {P : Program} {w : World} {K : PySem.W.Frag} {mg : Str → Option Value} {base : Heap} {j k : Nat} {X : Cx} {NS WS : List (Str × Nat)} {G : List Str} {x : Str} {C : Addr} {ps : List Str} {ka : Option Str} {R : List PyData → Hp → List (Str × V) → Prop} {vsOk : List V → Hp → List PyData → Prop} {e : Expr} {es : List Expr} {kws : List Keyword} {t tk : TA} {p pos : Pos}
end
end Tw
namespace Tw
open PySem PySem.Spec PyProof.Rows L2
/-! ### comprehensions whose items are data made anew; errors kept, told as data -/
/-- one argument, told as data; none -/
def vsX1 (K : PySem.W.Frag) : List V → Hp → List PyData → Prop := fun ws H ds => ∃ (v : V) (d : PyData) (c : Nat), ws = [v] ∧ ds = [d] ∧ Dp K H v d ∧ GoodD 8 d c ∧ c ≤ 1000000
def vsX0 : List V → Hp → List PyData → Prop := fun ws _ ds => ws = [] ∧ ds = []
/-- what the dict of an error with one argument holds; with none -/
def rE1 (K : PySem.W.Frag) (nm fld : Str) : List PyData → Hp → List (Str × V) → Prop := fun ds H fs => ∃ (d : PyData) (t : Addr) (g : V), ds = [d] ∧ fs.lookup ("code" : Str) = some (.str nm) ∧ fs.lookup ("details" : Str) = some (.ref t) ∧ fs.lookup fld = some g ∧ Dp K H (.ref t) (.tuple [d]) ∧ Dp K H g d
def rE0 (K : PySem.W.Frag) (nm : Str) : List PyData → Hp → List (Str × V) → Prop := fun ds H fs => ∃ t : Addr, ds = [] ∧ fs.lookup ("code" : Str) = some (.str nm) ∧ fs.lookup ("details" : Str) = some (.ref t) ∧ Dp K H (.ref t) (.tuple [])
theorem rE1_mono {K : PySem.W.Frag} {nm fld : Str} : ∀ ds H H' fs, Same H H' → rE1 K nm fld ds H fs → rE1 K nm fld ds H' fs := fun ds H H' fs s ⟨d, t, g, e, h1, h2, h3, h4, h5⟩ => ⟨d, t, g, e, h1, h2, h3, dp_same s _ _ h4, dp_same s _ _ h5⟩
theorem rE0_mono {K : PySem.W.Frag} {nm : Str} : ∀ ds H H' fs, Same H H' → rE0 K nm ds H fs → rE0 K nm ds H' fs := fun ds H H' fs s ⟨t, e, h1, h2, h4⟩ => ⟨t, e, h1, h2, dp_same s _ _ h4⟩
/-- an error that is kept: what it tells of the datum d under the names fld, code, details -/
def Er1 (K : PySem.W.Frag) (fld nm : Str) (d : PyData) (H : Hp) (v : V) : Prop := ∃ (a C dd : Addr) (m : List (Str × V)), v = .ref a ∧ H a = some (erO a (.ref C) (some dd)) ∧ XfC K C ∧ PySem.W.findIn K (.ref C) fld = some none ∧ PySem.W.findIn K (.ref C) "code" = some none ∧ PySem.W.findIn K (.ref C) "details" = some none ∧ H dd = some (.xd m) ∧ rE1 K nm fld [d] H m
theorem Er1.same {K : PySem.W.Frag} {fld nm : Str} {d : PyData} {H H' : Hp} {v : V} (h : Er1 K fld nm d H v) (s : Same H H') : Er1 K fld nm d H' v := by
  obtain ⟨a, C, dd, m, h1, h2, h3, h4, h5, h6, h7, h8⟩ := h
  exact ⟨a, C, dd, m, h1, s _ _ h2, h3, h4, h5, h6, s _ _ h7, rE1_mono _ _ _ _ s h8⟩
def Er0 (K : PySem.W.Frag) (nm : Str) (H : Hp) (v : V) : Prop := ∃ (a C dd : Addr) (m : List (Str × V)), v = .ref a ∧ H a = some (erO a (.ref C) (some dd)) ∧ XfC K C ∧ PySem.W.findIn K (.ref C) "code" = some none ∧ PySem.W.findIn K (.ref C) "details" = some none ∧ H dd = some (.xd m) ∧ rE0 K nm [] H m
theorem Er0.same {K : PySem.W.Frag} {nm : Str} {H H' : Hp} {v : V} (h : Er0 K nm H v) (s : Same H H') : Er0 K nm H' v := by
  obtain ⟨a, C, dd, m, h1, h2, h3, h5, h6, h7, h8⟩ := h
  exact ⟨a, C, dd, m, h1, s _ _ h2, h3, h5, h6, s _ _ h7, rE0_mono _ _ _ _ s h8⟩
/-- what is known of an error class with one argument, of one with none -/
structure KeV (P : Program) (w : World) (K : PySem.W.Frag) (mg : Str → Option Value) (base : Heap) (x fld : Str) (C : Addr) : Prop where
  k : KeX P w K mg base 10 x C ["self", fld] (some fld) (rE1 K x fld) (vsX1 K)
  n1 : PySem.W.findIn K (.ref C) fld = some none
  n2 : PySem.W.findIn K (.ref C) "code" = some none
  n3 : PySem.W.findIn K (.ref C) "details" = some none
structure KeV0 (P : Program) (w : World) (K : PySem.W.Frag) (mg : Str → Option Value) (base : Heap) (x : Str) (C : Addr) : Prop where
  k : KeX P w K mg base 10 x C ["self"] none (rE0 K x) vsX0
  n2 : PySem.W.findIn K (.ref C) "code" = some none
  n3 : PySem.W.findIn K (.ref C) "details" = some none
structure KeVp (P : Program) (w : World) (K : PySem.W.Frag) (mg : Str → Option Value) (base : Heap) (x fld : Str) (C : Addr) : Prop where
  v : KeV P w K mg base x fld C
  T : OexC K C
structure KeV0p (P : Program) (w : World) (K : PySem.W.Frag) (mg : Str → Option Value) (base : Heap) (x : Str) (C : Addr) : Prop where
  v : KeV0 P w K mg base x C
  T : OexC K C
section
variable {P : Program} {w : World} {K : PySem.W.Frag} {mg : Str → Option Value} {base : Heap} {j : Nat} {X : Cx} {NS WS : List (Str × Nat)} {G : List Str} {x fld : Str} {C : Addr} {e : Expr} {es : List Expr} {kws : List Keyword} {t tk : TA} {p pos : Pos}
end
section
variable {P : Program} {w : World} {K : PySem.W.Frag} {mg : Str → Option Value} {base : Heap} {x fld : Str} {C : Addr} {v : V} {d : PyData} {c : Nat} {H1 : Hp} {Q : VK}
theorem KeV.at {E : XK} (D : KeV P w K mg base x fld C) (hd : Dp K H1 v d) (hg : GoodD 8 d c) (hc : c ≤ 1000000) (hE : ∀ H' dd, (∀ b, H' b = none → Same H1 (upd H' b (erO b (.ref C) (some dd))) ∧ Er1 K fld x d (upd H' b (erO b (.ref C) (some dd))) (.ref b)) → E (.ref C) (some dd) H') :
    ∀ a, H1 a = none → spErX C (rE1 K x fld) (vsX1 K) (.ref a :: [v]) (upd H1 a (exo a C none)) (keEnd C a H1 E) (fun _ _ _ => False) :=
  (kex_valE rE1_mono (by show 1 ≤ 1000; decide) ⟨v, d, c, rfl, rfl, hd, hg, hc⟩ fun H' dd fs w => hE H' dd fun b hb => ⟨(w b hb).1, b, C, dd, fs, rfl, upd_same, D.k.xf, D.n1, D.n2, D.n3, (w b hb).2.1, (w b hb).2.2⟩).2
theorem KeV0.at {E : XK} (D : KeV0 P w K mg base x C) (hE : ∀ H' dd, (∀ b, H' b = none → Same H1 (upd H' b (erO b (.ref C) (some dd))) ∧ Er0 K x (upd H' b (erO b (.ref C) (some dd))) (.ref b)) → E (.ref C) (some dd) H') :
    ∀ a, H1 a = none → spErX C (rE0 K x) vsX0 (.ref a :: []) (upd H1 a (exo a C none)) (keEnd C a H1 E) (fun _ _ _ => False) :=
  (kex_valE rE0_mono (by show 0 ≤ 1000; decide) ⟨rfl, rfl⟩ fun H' dd fs w => hE H' dd fun b hb => ⟨(w b hb).1, b, C, dd, fs, rfl, upd_same, D.k.xf, D.n2, D.n3, (w b hb).2.1, (w b hb).2.2⟩).2
end
/-- errors in a list, each with its name and its datum -/
def ErL (K : PySem.W.Frag) (fld : Str) (d : PyData) (H : Hp) (xs : List V) (nms : List Str) : Prop := xs.length = nms.length ∧ ∀ (j : Nat) x nm, xs[j]? = some x → nms[j]? = some nm → Er1 K fld nm d H x
theorem ErL.nil {K : PySem.W.Frag} {fld : Str} {d : PyData} {H : Hp} : ErL K fld d H [] [] := ⟨rfl, fun j x nm h => by cases h⟩
theorem ErL.cons {K : PySem.W.Frag} {fld nm : Str} {d : PyData} {H : Hp} {x : V} {xs : List V} {nms : List Str} (h : Er1 K fld nm d H x) (t : ErL K fld d H xs nms) : ErL K fld d H (x :: xs) (nm :: nms) :=
  ⟨congrArg Nat.succ t.1, fun j y m h1 h2 => by
    cases j with
    | zero => cases h1; cases h2; exact h
    | succ j => exact t.2 j y m h1 h2⟩
theorem ErL.same {K : PySem.W.Frag} {fld : Str} {d : PyData} {H H' : Hp} {xs : List V} {nms : List Str} (h : ErL K fld d H xs nms) (s : Same H H') : ErL K fld d H' xs nms := ⟨h.1, fun j x nm h1 h2 => (h.2 j x nm h1 h2).same s⟩
end Tw
/-! what nextOf does (made by mkT108.py out of T87) with a zip of two tuples whose own tuple may be out -/
namespace RZ
open PySem PySem.Spec PyProof.Rows L2
section
variable {prog : Program} {w : World} {A : Around} {E : Value → Shared → Prop} {s : Shared}
theorem zn_free {x y : Value} {Q : Value → Shared → Prop} {z TI TO i1 i2 l1 l2 : Addr} {k1 k2 : Nat} {xs ys : Array Value} {a b : Value} {v : Value} {f : Bool} (D : ZipApart z TI TO i1 i2 l1 l2)
    (hz : IsZf s.heap z TI TO v f) (hTI : IsPair s.heap TI (.ref i1) (.ref i2)) (hTO : IsPair s.heap TO a b) (h1 : s.heap.IsTupleIter i1 l1 k1) (h2 : s.heap.IsTupleIter i2 l2 k2) (hl1 : s.heap.IsTuple l1 xs) (hl2 : s.heap.IsTuple l2 ys) (hv : v = .none ∨ ∃ T : Addr, v = rawInt T ∧ s.heap.get? T = none) (hx : xs[k1]? = some x) (hy : ys[k2]? = some y)
    (hQ : ∀ h', IsZk h' z TI TO → (∃ c d, IsPair h' TO c d) → h'.IsTupleIter i1 l1 (k1 + 1) → h'.IsTupleIter i2 l2 (k2 + 1) → IsPair h' s.heap.objs.size x y → h'.objs.size = s.heap.objs.size + 1 →
      (∀ c o, c ≠ z → c ≠ TO → c ≠ i1 → c ≠ i2 → s.heap.get? c = some o → h'.get? c = some o) → Q (.ref s.heap.objs.size) { s with heap := h' }) : wpAny (model prog w) A (Builtin.SmallTypes.nextOf (.ref z)) Q E s := by
  have hT : s.TypeIs (.ref z) "zip" := ⟨_, hz, rfl⟩
  unfold Builtin.SmallTypes.nextOf
  refine wpAny_bind (wpAny_callSpecial?_slot (name := Str.ofString "__next__") hT F.slot_zip_next (wpAny_call_entry F.slot_zip_next hT F.entry_zip_next ?_ (F.args_zip_next_1 _)))
  obtain ⟨hp, g, dr, tk, os⟩ := s
  replace hz : hp.get? z = _ := hz
  replace hTI : hp.get? TI = _ := hTI
  replace hTO : hp.get? TO = _ := hTO
  unfold Builtin.«zip.__next__»
  repeat ((fail_if_success (with_reducible (show wpAny _ _ (Builtin.SmallTypes.ownedTupleIsFree _) _ _ _))); wp_step)
  refine own_free hz hv ?_
  repeat ((fail_if_success (with_reducible (show wpAny _ _ (Sem.onRaise _ _) _ _ _))); wp_step)
  refine wpAny_onRaise ?_
  show wpAny _ _ (Builtin.SmallTypes.nextOf (.ref i1) >>= _) _ _ _
  generalize hp1 : hp.update z _ = p1
  have sb1 : Heap.SameBut z hp p1 := by rw [← hp1]; exact Heap.SameBut.update ..
  have z1 : p1.get? z = some { cls := .type "zip", dict := none, data := .fields #[.ellipsis, .bool f, .bool false, .ref TI, .ref TO], slots := #[] } := by
    rw [← hp1]; exact Heap.get?_update_self _ hz rfl
  refine wpAny_bind (nextOf_tuple_item (h1.extBut sb1.extBut D.i1z) (hl1.extBut sb1.extBut D.l1z) hx fun p2 j1 sb2 => wpAny_pure ?_)
  have t2 : p2.get? TO = _ := sb2.extBut _ _ D.TOi1 (sb1.extBut _ _ D.TOz hTO)
  repeat ((fail_if_success (with_reducible (show wpAny _ _ (Sem.onRaise _ _) _ _ _))); wp_step)
  refine wpAny_onRaise ?_
  show wpAny _ _ (Builtin.SmallTypes.nextOf (.ref i2) >>= _) _ _ _
  generalize hp3 : p2.update TO _ = p3
  have sb3 : Heap.SameBut TO p2 p3 := by rw [← hp3]; exact Heap.SameBut.update ..
  have t3 : p3.get? TO = some { cls := .type "tuple", data := .seq #[x, b] } := by
    rw [← hp3]; exact Heap.get?_update_self _ t2 rfl
  refine wpAny_bind (nextOf_tuple_item (((h2.extBut sb1.extBut D.i2z).extBut sb2.extBut D.i12.symm).extBut sb3.extBut D.TOi2.symm) (((hl2.extBut sb1.extBut D.l2z).extBut sb2.extBut D.l2i1).extBut sb3.extBut D.l2TO) hy fun p4 j2 sb4 => wpAny_pure ?_)
  have t4 : p4.get? TO = _ := sb4.extBut _ _ D.TOi2 t3
  have z4 : p4.get? z = _ := sb4.extBut _ _ D.i2z.symm (sb3.extBut _ _ D.TOz.symm (sb2.extBut _ _ D.i1z.symm z1))
  repeat ((fail_if_success (with_reducible (show wpAny _ _ (setField _ _ _) _ _ _))); wp_step)
  generalize hp5 : p4.update TO _ = p5
  have sb5 : Heap.SameBut TO p4 p5 := by rw [← hp5]; exact Heap.SameBut.update ..
  have t5 : p5.get? TO = some { cls := .type "tuple", data := .seq #[x, y] } := by
    rw [← hp5]; exact Heap.get?_update_self _ t4 rfl
  have z5 : p5.get? z = _ := sb5.extBut _ _ D.TOz.symm z4
  have n5 : p5.objs.size = hp.objs.size := by rw [sb5.1, sb4.1, sb3.1, sb2.1, sb1.1]
  have e5 : ∀ c o, c ≠ z → c ≠ TO → c ≠ i1 → c ≠ i2 → hp.get? c = some o → p5.get? c = some o := fun c o c1 c2 c3 c4 e => sb5.extBut _ _ c2 (sb4.extBut _ _ c4 (sb3.extBut _ _ c2 (sb2.extBut _ _ c3 (sb1.extBut _ _ c1 e))))
  have j1' : p5.IsTupleIter i1 l1 (k1 + 1) := ((j1.extBut sb3.extBut D.TOi1.symm).extBut sb4.extBut D.i12).extBut sb5.extBut D.TOi1.symm
  have j2' : p5.IsTupleIter i2 l2 (k2 + 1) := j2.extBut sb5.extBut D.TOi2.symm
  have zlt : z < p5.objs.size := Heap.lt_size z5
  have z6 : (p5.push { cls := .type "tuple", data := .seq #[x, y] }).get? z = _ := Heap.get?_push_of_some _ z5
  have T6 : (p5.push { cls := .type "tuple", data := .seq #[x, y] }).get? p5.objs.size = some { cls := .type "tuple", data := .seq #[x, y] } := Heap.get?_push_size _ rfl
  refine wpAny_setField_rec z6 (by simp) fun p7 z7 sb7 => ?_
  refine wpAny_setField_rec z7 (by simp) fun p8 z8 sb8 => ?_
  refine wpAny_pure ⟨_, rfl, wpAny_pure ?_⟩
  have up : ∀ c o, c ≠ z → p5.get? c = some o → p8.get? c = some o := fun c o c1 e => sb8.extBut _ _ c1 (sb7.extBut _ _ c1 (Heap.get?_push_of_some _ e))
  have T8 : p8.get? p5.objs.size = some { cls := .type "tuple", data := .seq #[x, y] } := sb8.extBut _ _ (Nat.ne_of_gt zlt) (sb7.extBut _ _ (Nat.ne_of_gt zlt) T6)
  have n8 : p8.objs.size = p5.objs.size + 1 := by rw [sb8.1, sb7.1, Heap.size_push]
  rw [n5] at T8 n8 z8 ⊢
  exact hQ p8 ⟨_, _, z8, .inr ⟨_, rfl⟩⟩ ⟨_, _, up _ _ D.TOz t5⟩ (j1'.at fun o e => up _ o D.i1z e) (j2'.at fun o e => up _ o D.i2z e) T8 n8 fun c o c1 c2 c3 c4 e => up c o c1 (e5 c o c1 c2 c3 c4 e)
theorem zn_held {x y : Value} {Q : Value → Shared → Prop} {z TI TO i1 i2 l1 l2 : Addr} {k1 k2 : Nat} {xs ys : Array Value} {a b : Value} {T : Addr} {oT : Obj} {f : Bool} (D : ZipApart z TI TO i1 i2 l1 l2)
    (hz : IsZf s.heap z TI TO (rawInt T) f) (hTI : IsPair s.heap TI (.ref i1) (.ref i2)) (hTO : IsPair s.heap TO a b) (h1 : s.heap.IsTupleIter i1 l1 k1) (h2 : s.heap.IsTupleIter i2 l2 k2) (hl1 : s.heap.IsTuple l1 xs) (hl2 : s.heap.IsTuple l2 ys) (hA : s.heap.get? T = some oT) (hx : xs[k1]? = some x) (hy : ys[k2]? = some y)
    (hQ : ∀ h', IsZk h' z TI TO → (∃ c d, IsPair h' TO c d) → h'.IsTupleIter i1 l1 (k1 + 1) → h'.IsTupleIter i2 l2 (k2 + 1) → IsPair h' s.heap.objs.size x y → h'.objs.size = s.heap.objs.size + 1 →
      (∀ c o, c ≠ z → c ≠ TO → c ≠ i1 → c ≠ i2 → s.heap.get? c = some o → h'.get? c = some o) → Q (.ref s.heap.objs.size) { s with heap := h' }) : wpAny (model prog w) A (Builtin.SmallTypes.nextOf (.ref z)) Q E s := by
  have hT : s.TypeIs (.ref z) "zip" := ⟨_, hz, rfl⟩
  unfold Builtin.SmallTypes.nextOf
  refine wpAny_bind (wpAny_callSpecial?_slot (name := Str.ofString "__next__") hT F.slot_zip_next (wpAny_call_entry F.slot_zip_next hT F.entry_zip_next ?_ (F.args_zip_next_1 _)))
  obtain ⟨hp, g, dr, tk, os⟩ := s
  replace hz : hp.get? z = _ := hz
  replace hTI : hp.get? TI = _ := hTI
  replace hTO : hp.get? TO = _ := hTO
  unfold Builtin.«zip.__next__»
  repeat ((fail_if_success (with_reducible (show wpAny _ _ (Builtin.SmallTypes.ownedTupleIsFree _) _ _ _))); wp_step)
  refine own_held hz hA fun p1 z1 sb1 => ?_
  repeat ((fail_if_success (with_reducible (show wpAny _ _ (Builtin.SmallTypes.nextOf _) _ _ _))); wp_step)
  refine nextOf_tuple_item (h1.extBut sb1.extBut D.i1z) (hl1.extBut sb1.extBut D.l1z) hx fun p2 j1 sb2 => ?_
  repeat ((fail_if_success (with_reducible (show wpAny _ _ (Builtin.SmallTypes.nextOf _) _ _ _))); wp_step)
  refine nextOf_tuple_item ((h2.extBut sb1.extBut D.i2z).extBut sb2.extBut D.i12.symm) ((hl2.extBut sb1.extBut D.l2z).extBut sb2.extBut D.l2i1) hy fun p3 j2 sb3 => ?_
  wp_walk
  have n3 : p3.objs.size = hp.objs.size := by rw [sb3.1, sb2.1, sb1.1]
  have z3 : p3.get? z = _ := sb3.extBut _ _ D.i2z.symm (sb2.extBut _ _ D.i1z.symm z1)
  have e3 : ∀ c o, c ≠ z → c ≠ i1 → c ≠ i2 → hp.get? c = some o → p3.get? c = some o := fun c o c1 c3 c4 e => sb3.extBut _ _ c4 (sb2.extBut _ _ c3 (sb1.extBut _ _ c1 e))
  have T3 : (p3.push { cls := .type "tuple", data := .seq #[x, y] }).get? p3.objs.size = some { cls := .type "tuple", data := .seq #[x, y] } := Heap.get?_push_size _ rfl
  have m3 : (p3.push { cls := .type "tuple", data := .seq #[x, y] }).objs.size = p3.objs.size + 1 := Heap.size_push _ _
  refine ⟨_, rfl, wpAny_pure ?_⟩
  show Q (.ref p3.objs.size) { heap := p3.push { cls := .type "tuple", data := .seq #[x, y] }, gens := g, drawn := dr, toks := tk, os := os }
  rw [n3] at T3 m3 ⊢
  exact hQ _ ⟨_, _, Heap.get?_push_of_some _ z3, .inr ⟨_, rfl⟩⟩ ⟨_, _, Heap.get?_push_of_some _ (e3 _ _ D.TOz D.TOi1 D.TOi2 hTO)⟩ ((j1.extBut sb3.extBut D.i12).at fun o e => Heap.get?_push_of_some _ e) (j2.at fun o e => Heap.get?_push_of_some _ e) T3 m3 fun c o c1 _ c3 c4 e => Heap.get?_push_of_some _ (e3 c o c1 c3 c4 e)
theorem zn_freeE {Q : Value → Shared → Prop} {z TI TO i1 i2 l1 l2 : Addr} {k1 k2 : Nat} {xs ys : Array Value} {a b : Value} {v : Value} {f : Bool} (D : ZipApart z TI TO i1 i2 l1 l2)
    (hz : IsZf s.heap z TI TO v f) (hTI : IsPair s.heap TI (.ref i1) (.ref i2)) (hTO : IsPair s.heap TO a b) (h1 : s.heap.IsTupleIter i1 l1 k1) (h2 : s.heap.IsTupleIter i2 l2 k2) (hl1 : s.heap.IsTuple l1 xs) (hl2 : s.heap.IsTuple l2 ys) (hv : v = .none ∨ ∃ T : Addr, v = rawInt T ∧ s.heap.get? T = none)
    (hh : A.handled = none) (hend : xs[k1]? = none ∨ ys[k2]? = none) (hE : ∀ h' e, (∀ c o, c ≠ z → c ≠ TO → c ≠ i1 → c ≠ i2 → s.heap.get? c = some o → h'.get? c = some o) → (∃ o, h'.get? e = some o ∧ o.cls = .type "StopIteration") → E (.ref e) { s with heap := h' }) : wpAny (model prog w) A (Builtin.SmallTypes.nextOf (.ref z)) Q E s := by
  have hT : s.TypeIs (.ref z) "zip" := ⟨_, hz, rfl⟩
  unfold Builtin.SmallTypes.nextOf
  refine wpAny_bind (wpAny_callSpecial?_slot (name := Str.ofString "__next__") hT F.slot_zip_next (wpAny_call_entry F.slot_zip_next hT F.entry_zip_next ?_ (F.args_zip_next_1 _)))
  obtain ⟨hp, g, dr, tk, os⟩ := s
  replace hz : hp.get? z = _ := hz
  replace hTI : hp.get? TI = _ := hTI
  replace hTO : hp.get? TO = _ := hTO
  unfold Builtin.«zip.__next__»
  repeat ((fail_if_success (with_reducible (show wpAny _ _ (Builtin.SmallTypes.ownedTupleIsFree _) _ _ _))); wp_step)
  refine own_free hz hv ?_
  repeat ((fail_if_success (with_reducible (show wpAny _ _ (Sem.onRaise _ _) _ _ _))); wp_step)
  refine wpAny_onRaise ?_
  show wpAny _ _ (Builtin.SmallTypes.nextOf (.ref i1) >>= _) _ _ _
  generalize hp1 : hp.update z _ = p1
  have sb1 : Heap.SameBut z hp p1 := by rw [← hp1]; exact Heap.SameBut.update ..
  have z1 : p1.get? z = some { cls := .type "zip", dict := none, data := .fields #[.ellipsis, .bool f, .bool false, .ref TI, .ref TO], slots := #[] } := by
    rw [← hp1]; exact Heap.get?_update_self _ hz rfl
  have fin : ∀ (p q : Heap) (e : Addr), p.get? z = some { cls := .type "zip", dict := none, data := .fields #[.ellipsis, .bool f, .bool false, .ref TI, .ref TO], slots := #[] } → (∃ o, p.get? e = some o ∧ o.cls = .type "StopIteration") → Heap.SameBut z p q → ∃ o, q.get? e = some o ∧ o.cls = .type "StopIteration" := fun p q e hz he sb => by
    obtain ⟨o, ho, hc⟩ := he
    refine ⟨o, sb.extBut _ _ (fun q => ?_) ho, hc⟩
    subst q
    rw [hz] at ho
    cases ho
    simp at hc
  cases hx : xs[k1]? with
  | none =>
    refine wpAny_bind (nextOf_tuple_end hh (h1.extBut sb1.extBut D.i1z) (hl1.extBut sb1.extBut D.l1z) hx fun p2 e eb he => ?_)
    have z2 := eb _ _ D.i1z.symm z1
    refine wpAny_setField_rec z2 (by simp) fun p3 z3 sb3 => ?_
    obtain ⟨o, ho, hc⟩ := fin _ _ _ z2 he sb3
    exact hE _ _ (fun c o c1 _ c3 _ q => sb3.extBut _ _ c1 (eb _ _ c3 (sb1.extBut _ _ c1 q))) ⟨o, ho, hc⟩
  | some x =>
    have hy : ys[k2]? = none := hend.resolve_left (by rw [hx]; simp)
    refine wpAny_bind (nextOf_tuple_item (h1.extBut sb1.extBut D.i1z) (hl1.extBut sb1.extBut D.l1z) hx fun p2 j1 sb2 => wpAny_pure ?_)
    have t2 : p2.get? TO = _ := sb2.extBut _ _ D.TOi1 (sb1.extBut _ _ D.TOz hTO)
    repeat ((fail_if_success (with_reducible (show wpAny _ _ (Sem.onRaise _ _) _ _ _))); wp_step)
    refine wpAny_onRaise ?_
    show wpAny _ _ (Builtin.SmallTypes.nextOf (.ref i2) >>= _) _ _ _
    generalize hp3 : p2.update TO _ = p3
    have sb3 : Heap.SameBut TO p2 p3 := by rw [← hp3]; exact Heap.SameBut.update ..
    refine wpAny_bind (nextOf_tuple_end hh (((h2.extBut sb1.extBut D.i2z).extBut sb2.extBut D.i12.symm).extBut sb3.extBut D.TOi2.symm) (((hl2.extBut sb1.extBut D.l2z).extBut sb2.extBut D.l2i1).extBut sb3.extBut D.l2TO) hy fun p4 e eb he => ?_)
    have z4 := eb _ _ D.i2z.symm (sb3.extBut _ _ D.TOz.symm (sb2.extBut _ _ D.i1z.symm z1))
    refine wpAny_setField_rec z4 (by simp) fun p5 z5 sb5 => ?_
    obtain ⟨o, ho, hc⟩ := fin _ _ _ z4 he sb5
    exact hE _ _ (fun c o c1 c2 c3 c4 q => sb5.extBut _ _ c1 (eb _ _ c4 (sb3.extBut _ _ c2 (sb2.extBut _ _ c3 (sb1.extBut _ _ c1 q))))) ⟨o, ho, hc⟩
theorem zn_heldE {Q : Value → Shared → Prop} {z TI TO i1 i2 l1 l2 : Addr} {k1 k2 : Nat} {xs ys : Array Value} {a b : Value} {T : Addr} {oT : Obj} {f : Bool} (D : ZipApart z TI TO i1 i2 l1 l2)
    (hz : IsZf s.heap z TI TO (rawInt T) f) (hTI : IsPair s.heap TI (.ref i1) (.ref i2)) (hTO : IsPair s.heap TO a b) (h1 : s.heap.IsTupleIter i1 l1 k1) (h2 : s.heap.IsTupleIter i2 l2 k2) (hl1 : s.heap.IsTuple l1 xs) (hl2 : s.heap.IsTuple l2 ys) (hA : s.heap.get? T = some oT)
    (hh : A.handled = none) (hend : xs[k1]? = none ∨ ys[k2]? = none) (hE : ∀ h' e, (∀ c o, c ≠ z → c ≠ TO → c ≠ i1 → c ≠ i2 → s.heap.get? c = some o → h'.get? c = some o) → (∃ o, h'.get? e = some o ∧ o.cls = .type "StopIteration") → E (.ref e) { s with heap := h' }) : wpAny (model prog w) A (Builtin.SmallTypes.nextOf (.ref z)) Q E s := by
  have hT : s.TypeIs (.ref z) "zip" := ⟨_, hz, rfl⟩
  unfold Builtin.SmallTypes.nextOf
  refine wpAny_bind (wpAny_callSpecial?_slot (name := Str.ofString "__next__") hT F.slot_zip_next (wpAny_call_entry F.slot_zip_next hT F.entry_zip_next ?_ (F.args_zip_next_1 _)))
  obtain ⟨hp, g, dr, tk, os⟩ := s
  replace hz : hp.get? z = _ := hz
  replace hTI : hp.get? TI = _ := hTI
  replace hTO : hp.get? TO = _ := hTO
  unfold Builtin.«zip.__next__»
  repeat ((fail_if_success (with_reducible (show wpAny _ _ (Builtin.SmallTypes.ownedTupleIsFree _) _ _ _))); wp_step)
  refine own_held hz hA fun p1 z1 sb1 => ?_
  repeat ((fail_if_success (with_reducible (show wpAny _ _ (Builtin.SmallTypes.nextOf _) _ _ _))); wp_step)
  cases hx : xs[k1]? with
  | none =>
    refine nextOf_tuple_end hh (h1.extBut sb1.extBut D.i1z) (hl1.extBut sb1.extBut D.l1z) hx fun p2 e eb he => ?_
    obtain ⟨o, ho, hc⟩ := he
    exact hE _ _ (fun c o c1 _ c3 _ q => eb _ _ c3 (sb1.extBut _ _ c1 q)) ⟨o, ho, hc⟩
  | some x =>
    have hy : ys[k2]? = none := hend.resolve_left (by rw [hx]; simp)
    refine nextOf_tuple_item (h1.extBut sb1.extBut D.i1z) (hl1.extBut sb1.extBut D.l1z) hx fun p2 j1 sb2 => ?_
    repeat ((fail_if_success (with_reducible (show wpAny _ _ (Builtin.SmallTypes.nextOf _) _ _ _))); wp_step)
    refine nextOf_tuple_end hh ((h2.extBut sb1.extBut D.i2z).extBut sb2.extBut D.i12.symm) ((hl2.extBut sb1.extBut D.l2z).extBut sb2.extBut D.l2i1) hy fun p3 e eb he => ?_
    obtain ⟨o, ho, hc⟩ := he
    exact hE _ _ (fun c o c1 _ c3 c4 q => eb _ _ c4 (sb2.extBut _ _ c3 (sb1.extBut _ _ c1 q))) ⟨o, ho, hc⟩
/-- nextOf of a zip of two tuples: an item, the end -/
theorem zn_item {z TI TO i1 i2 l1 l2 : Addr} {k1 k2 : Nat} {xs ys : Array Value} {x y a b : Value} {Q : Value → Shared → Prop} (D : ZipApart z TI TO i1 i2 l1 l2)
    (hz : IsZk s.heap z TI TO) (hTI : IsPair s.heap TI (.ref i1) (.ref i2)) (hTO : IsPair s.heap TO a b) (h1 : s.heap.IsTupleIter i1 l1 k1) (h2 : s.heap.IsTupleIter i2 l2 k2) (hl1 : s.heap.IsTuple l1 xs) (hl2 : s.heap.IsTuple l2 ys) (hx : xs[k1]? = some x) (hy : ys[k2]? = some y)
    (hQ : ∀ h', IsZk h' z TI TO → (∃ c d, IsPair h' TO c d) → h'.IsTupleIter i1 l1 (k1 + 1) → h'.IsTupleIter i2 l2 (k2 + 1) → IsPair h' s.heap.objs.size x y → h'.objs.size = s.heap.objs.size + 1 →
      (∀ c o, c ≠ z → c ≠ TO → c ≠ i1 → c ≠ i2 → s.heap.get? c = some o → h'.get? c = some o) → Q (.ref s.heap.objs.size) { s with heap := h' }) : wpAny (model prog w) A (Builtin.SmallTypes.nextOf (.ref z)) Q E s := by
  obtain ⟨v, f, hz, hv⟩ := hz
  rcases hv with e | ⟨T, e⟩
  · exact zn_free D hz hTI hTO h1 h2 hl1 hl2 (.inl e) hx hy hQ
  · cases q : s.heap.get? T with
    | none => exact zn_free D hz hTI hTO h1 h2 hl1 hl2 (.inr ⟨T, e, q⟩) hx hy hQ
    | some oT =>
      subst e
      exact zn_held D hz hTI hTO h1 h2 hl1 hl2 q hx hy hQ
theorem zn_done {z TI TO i1 i2 l1 l2 : Addr} {k1 k2 : Nat} {xs ys : Array Value} {a b : Value} {Q : Value → Shared → Prop} (hh : A.handled = none) (D : ZipApart z TI TO i1 i2 l1 l2)
    (hz : IsZk s.heap z TI TO) (hTI : IsPair s.heap TI (.ref i1) (.ref i2)) (hTO : IsPair s.heap TO a b) (h1 : s.heap.IsTupleIter i1 l1 k1) (h2 : s.heap.IsTupleIter i2 l2 k2) (hl1 : s.heap.IsTuple l1 xs) (hl2 : s.heap.IsTuple l2 ys) (hend : xs[k1]? = none ∨ ys[k2]? = none)
    (hE : ∀ h' e, (∀ c o, c ≠ z → c ≠ TO → c ≠ i1 → c ≠ i2 → s.heap.get? c = some o → h'.get? c = some o) → (∃ o, h'.get? e = some o ∧ o.cls = .type "StopIteration") → E (.ref e) { s with heap := h' }) : wpAny (model prog w) A (Builtin.SmallTypes.nextOf (.ref z)) Q E s := by
  obtain ⟨v, f, hz, hv⟩ := hz
  rcases hv with e | ⟨T, e⟩
  · exact zn_freeE D hz hTI hTO h1 h2 hl1 hl2 (.inl e) hh hend hE
  · cases q : s.heap.get? T with
    | none => exact zn_freeE D hz hTI hTO h1 h2 hl1 hl2 (.inr ⟨T, e, q⟩) hh hend hE
    | some oT =>
      subst e
      exact zn_heldE D hz hTI hTO h1 h2 hl1 hl2 q hh hend hE
end
end RZ
/-! enumerate of a zip of two tuples whose pairs are kept -/
namespace RZ
open PySem PySem.Spec PyProof.Rows L2
section
variable {prog : Program} {w : World} {A : Around} {E : Value → Shared → Prop} {s : Shared}
theorem eown_free {e it : Addr} {n : Int} {x : Value} {Q : Bool → Shared → Prop} (he : IsEnum s.heap e it n x) (h : Q true s) : wpAny (model prog w) A (Builtin.SmallTypes.ownedTupleIsFree (.ref e)) Q E s := by
  unfold Builtin.SmallTypes.ownedTupleIsFree
  exact wpAny_bind (wpAny_field he rfl (x := .none) rfl (wpAny_pure h))
/-- what next does with such an enumerate: the zip's pair, then the pair of the number and it -/
theorem ez_item {e z TI TO i1 i2 l1 l2 : Addr} {i : Nat} {xs ys : Array Value} {x y a b old : Value} {Q : Option Value → Shared → Prop} (D : ZipApart z TI TO i1 i2 l1 l2) (n1 : e ≠ z) (n2 : e ≠ TO) (n3 : e ≠ i1) (n4 : e ≠ i2) (n5 : e ≠ TI)
    (he : IsEnum s.heap e z (i : Int) old) (hz : IsZk s.heap z TI TO) (hTI : IsPair s.heap TI (.ref i1) (.ref i2)) (hTO : IsPair s.heap TO a b) (h1 : s.heap.IsTupleIter i1 l1 i) (h2 : s.heap.IsTupleIter i2 l2 i) (hl1 : s.heap.IsTuple l1 xs) (hl2 : s.heap.IsTuple l2 ys) (hx : xs[i]? = some x) (hy : ys[i]? = some y)
    (hQ : ∀ h' tk, IsEnumOut h' e z ((i : Int) + 1) (.ref s.heap.objs.size) (s.heap.objs.size + 1) → IsZk h' z TI TO → (∃ c d, IsPair h' TO c d) → h'.IsTupleIter i1 l1 (i + 1) → h'.IsTupleIter i2 l2 (i + 1) → IsPair h' s.heap.objs.size x y →
      IsPair h' (s.heap.objs.size + 1) (.int i tk) (.ref s.heap.objs.size) → h'.objs.size = s.heap.objs.size + 2 → (∀ c o, c ≠ e → c ≠ z → c ≠ TO → c ≠ i1 → c ≠ i2 → s.heap.get? c = some o → h'.get? c = some o) →
      Q (some (.ref (s.heap.objs.size + 1))) { s with heap := h', toks := tk + 1 }) : wpAny (model prog w) A (pyNext (.ref e)) Q E s := by
  have hT : s.TypeIs (.ref e) "enumerate" := ⟨_, he, rfl⟩
  have hzl : z < s.heap.objs.size := by obtain ⟨_, _, q, _⟩ := hz; exact Heap.lt_size q
  have hTl : TO < s.heap.objs.size := Heap.lt_size hTO
  have hel : e < s.heap.objs.size := Heap.lt_size he
  unfold pyNext
  refine wpAny_bind (wpAny_attempt (wpAny_callSpecial?_slot (name := Str.ofString "__next__") hT F.slot_enumerate_next (wpAny_call_entry F.slot_enumerate_next hT F.entry_enumerate_next ?_ (F.args_enumerate_next_1 _))))
  show wpAny _ _ (field (.ref e) 2 >>= _) _ _ _
  refine wpAny_bind (wpAny_field he rfl (x := .ref z) rfl (wpAny_bind ?_))
  refine zn_item D hz hTI hTO h1 h2 hl1 hl2 hx hy fun p hz' hTO' h1' h2' hP hsz hk => ?_
  have e1 : IsEnum p e z (i : Int) old := hk _ _ n1 n2 n3 n4 he
  have nP : ∀ {c o}, s.heap.get? c = some o → c ≠ s.heap.objs.size := fun {c o} q => Nat.ne_of_lt (Heap.lt_size q)
  obtain ⟨hp, g, dr, tk, os⟩ := s
  dsimp only at *
  repeat ((fail_if_success (with_reducible (show wpAny _ _ (setField _ _ _) _ _ _))); (first | refine wpAny_bind (wpAny_field e1 rfl (x := rawInt i) rfl ?_) | refine wpAny_bind (wpAny_field e1 rfl (x := .none) rfl ?_) | refine wpAny_bind (wpAny_mkInt ?_) | wp_step))
  refine wpAny_setField_rec e1 (by simp) fun p2 e2 sb2 => ?_
  replace e2 : IsEnum p2 e z ((i : Int) + 1) old := e2
  repeat ((fail_if_success (with_reducible (show wpAny _ _ (setField _ _ _) _ _ _))); wp_step)
  refine wpAny_setField_rec e2 (by simp) fun p3 e3 sb3 => ?_
  replace e3 : IsEnum p3 e z ((i : Int) + 1) old := e3
  repeat ((fail_if_success (with_reducible (show wpAny _ _ (newTuple _) _ _ _))); wp_step)
  refine wpAny_newTuple ?_
  have m3 : p3.objs.size = hp.objs.size + 1 := by rw [sb3.1, sb2.1, hsz]
  have e4 : IsEnum (p3.push { cls := .type "tuple", data := .seq #[.int i tk, .ref hp.objs.size] }) e z ((i : Int) + 1) old := Heap.get?_push_of_some _ e3
  have T4 : (p3.push { cls := .type "tuple", data := .seq #[.int i tk, .ref hp.objs.size] }).get? p3.objs.size = some { cls := .type "tuple", data := .seq #[.int i tk, .ref hp.objs.size] } := Heap.get?_push_size _ rfl
  have m4 : (p3.push { cls := .type "tuple", data := .seq #[.int i tk, .ref hp.objs.size] }).objs.size = hp.objs.size + 2 := by rw [Heap.size_push, m3]
  have k4 : ∀ c o, c ≠ e → p.get? c = some o → (p3.push { cls := .type "tuple", data := .seq #[.int i tk, .ref hp.objs.size] }).get? c = some o := fun c o c1 q => Heap.get?_push_of_some _ (sb3.extBut _ _ c1 (sb2.extBut _ _ c1 q))
  dsimp only
  rw [m3] at T4 ⊢
  generalize p3.push { cls := .type "tuple", data := .seq #[.int i tk, .ref hp.objs.size] } = p4 at e4 T4 m4 k4 ⊢
  refine wpAny_bind (eown_free e4 ?_)
  repeat ((fail_if_success (with_reducible (show wpAny _ _ (setField _ _ _) _ _ _))); (first | refine wpAny_bind (wpAny_field e4 rfl (x := old) rfl ?_) | wp_step))
  refine wpAny_setField_rec e4 (by simp) fun p5 e5 sb5 => ?_
  replace e5 : IsEnum p5 e z ((i : Int) + 1) (.ref hp.objs.size) := e5
  refine wpAny_bind ?_
  unfold Builtin.SmallTypes.ownedTupleHandOut
  repeat ((fail_if_success (with_reducible (show wpAny _ _ (setField _ _ _) _ _ _))); wp_step)
  refine wpAny_setField_rec e5 (by simp) fun p6 e6 sb6 => ?_
  replace e6 : IsEnumOut p6 e z ((i : Int) + 1) (.ref hp.objs.size) (hp.objs.size + 1) := e6
  repeat ((fail_if_success (with_reducible (show wpAny _ _ (setField _ _ _) _ _ _))); wp_step)
  refine wpAny_setField_rec e6 (by simp) fun p7 e7 sb7 => ?_
  replace e7 : IsEnumOut p7 e z ((i : Int) + 1) (.ref hp.objs.size) (hp.objs.size + 1) := e7
  dsimp only
  have up : ∀ c o, c ≠ e → p4.get? c = some o → p7.get? c = some o := fun c o c1 q => sb7.extBut _ _ c1 (sb6.extBut _ _ c1 (sb5.extBut _ _ c1 q))
  have ne1 : hp.objs.size + 1 ≠ e := Nat.ne_of_gt (Nat.lt_succ_of_lt hel)
  refine wpAny_bind (wpAny_letGo (wpAny_pure ⟨_, rfl, wpAny_pure (hQ p7 tk e7 ?_ ?_ (h1'.at fun o q => up i1 o (Ne.symm n3) (k4 i1 o (Ne.symm n3) q)) (h2'.at fun o q => up i2 o (Ne.symm n4) (k4 i2 o (Ne.symm n4) q)) (up _ _ (Nat.ne_of_gt hel) (k4 _ _ (Nat.ne_of_gt hel) hP)) (up _ _ ne1 T4) ?_ fun c o c0 c1 c2 c3 c4 q => up c o c0 (k4 c o c0 (hk c o c1 c2 c3 c4 q)))⟩))
  · obtain ⟨v, f, q, hv⟩ := hz'
    exact ⟨v, f, up z _ (Ne.symm n1) (k4 z _ (Ne.symm n1) q), hv⟩
  · obtain ⟨c, d, q⟩ := hTO'
    exact ⟨c, d, up TO _ (Ne.symm n2) (k4 TO _ (Ne.symm n2) q)⟩
  · rw [sb7.1, sb6.1, sb5.1, m4]
theorem ez_done {e z TI TO i1 i2 l1 l2 : Addr} {i : Nat} {xs ys : Array Value} {a b old : Value} {Q : Option Value → Shared → Prop} (hh : A.in1.handled = none) (D : ZipApart z TI TO i1 i2 l1 l2)
    (he : IsEnum s.heap e z (i : Int) old) (hz : IsZk s.heap z TI TO) (hTI : IsPair s.heap TI (.ref i1) (.ref i2)) (hTO : IsPair s.heap TO a b) (h1 : s.heap.IsTupleIter i1 l1 i) (h2 : s.heap.IsTupleIter i2 l2 i) (hl1 : s.heap.IsTuple l1 xs) (hl2 : s.heap.IsTuple l2 ys) (hend : xs[i]? = none ∨ ys[i]? = none)
    (hQ : ∀ h', (∀ c o, c ≠ z → c ≠ TO → c ≠ i1 → c ≠ i2 → s.heap.get? c = some o → h'.get? c = some o) → Q none { s with heap := h' }) : wpAny (model prog w) A (pyNext (.ref e)) Q E s := by
  have hT : s.TypeIs (.ref e) "enumerate" := ⟨_, he, rfl⟩
  unfold pyNext
  refine wpAny_bind (wpAny_attempt (wpAny_callSpecial?_slot (name := Str.ofString "__next__") hT F.slot_enumerate_next (wpAny_call_entry F.slot_enumerate_next hT F.entry_enumerate_next ?_ (F.args_enumerate_next_1 _))))
  show wpAny _ _ (field (.ref e) 2 >>= _) _ _ _
  refine wpAny_bind (wpAny_field he rfl (x := .ref z) rfl (wpAny_bind ?_))
  refine zn_done hh D hz hTI hTO h1 h2 hl1 hl2 hend fun h' x k hx' => ?_
  obtain ⟨o, ho, hc⟩ := hx'
  refine wpAny_bind (wpAny_isInstance (T := "StopIteration") (b := true) ⟨o, ho, hc⟩ isSubtype_stop ?_)
  exact wpAny_pure (hQ _ k)
end
end RZ
/-! for n, pair in enumerate(zip(a, b)), a and b tuples, the pairs kept -/
namespace RZ
open PySem PySem.Spec PyProof.Rows L2
open AutoSeq1 (wpAny_loadPart') in
theorem meets_enumZ (z TI TO : Addr) : Meets (Builtin.«enumerate.__new__» ⟨[.type "enumerate", .ref z], []⟩) (fun _ R s => IsZip s.heap z TI TO .none ∧
      R (.ok (.ret (.ref s.heap.objs.size))) { s with heap := s.heap.push { cls := .type "enumerate", data := .fields #[.none, .bool false, .ref z, rawInt 0, .none, .none] } }) :=
  .of_wp fun prog w A R s h => by
    obtain ⟨hp, g, d, tk, os⟩ := s; obtain ⟨hl, h⟩ := h
    have hsub := sub_enumerate
    have hz : IsZip (Shared.heap ⟨hp, g, d, tk, os⟩) z TI TO .none := hl
    wp_walk using wpAny_loadPart' hl
    refine wpAny_stack_any fun st => wpAny_pure ?_
    split
    · rename_i c _ _ _ _ _
      cases (c == Value.type "enumerate")
      · wp_walk using wpAny_loadPart' hl, wpAny_pyIter_zip hz
        exact ⟨_, rfl, h⟩
      · wp_walk using wpAny_loadPart' hl, wpAny_pyIter_zip hz
        exact ⟨_, rfl, h⟩
    · wp_walk using wpAny_loadPart' hl, wpAny_pyIter_zip hz
      exact ⟨_, rfl, h⟩
theorem call_enumZ {prog : Program} {w : World} {A : Around} {E : Value → Shared → Prop} {s : Shared} {z TI TO : Addr} {Q : Value → Shared → Prop} (hz : IsZip s.heap z TI TO .none)
    (h : ∀ h', IsEnum h' s.heap.objs.size z 0 .none → h'.objs.size = s.heap.objs.size + 1 → (∀ b o, s.heap.get? b = some o → h'.get? b = some o) → Q (.ref s.heap.objs.size) { s with heap := h' }) :
    wpAny (model prog w) A (call (.type "enumerate") [.ref z]) Q E s := by
  refine callType_new F.called_enumerate (by decide) (F.typeCall_enumerate_1 _) (F.newCall_enumerate_1 _) (fun obj => F.args_object_init_2 obj _) F.entry_enumerate_new (meets_enumZ z TI TO) ⟨hz, ?_⟩
  have he : IsEnum (s.heap.push { cls := .type "enumerate", data := .fields #[.none, .bool false, .ref z, rawInt 0, .none, .none] }) s.heap.objs.size z 0 .none := Heap.get?_push_size _ rfl
  exact ⟨⟨_, he, rfl⟩, h _ he (Heap.size_push ..) fun b o x => Heap.get?_push_of_some _ x⟩
/-- the numbers and the pairs of two tuples: two new tuples at each turn -/
def ItEZ (K : PySem.W.Frag) (a b : Addr) : It :=
  ⟨fun i H => ∃ (xs ys : List V) (x y : V), SqT K H a xs ∧ SqT K H b ys ∧ xs[i]? = some x ∧ ys[i]? = some y,
   fun i H v H' => ∃ (T T2 : Addr) (x y : V), v = .ref T2 ∧ H T = none ∧ T2 ≠ T ∧ H T2 = none ∧ H' = upd (upd H T (.tup [x, y])) T2 (.tup [.int (i : Nat), .ref T]) ∧ (∀ xs, SqT K H a xs → xs[i]? = some x) ∧ ∀ ys, SqT K H b ys → ys[i]? = some y,
   fun i H => ∃ xs ys : List V, SqT K H a xs ∧ SqT K H b ys ∧ (xs.length ≤ i ∨ ys.length ≤ i)⟩
theorem turn_ez {P : Program} {w : World} {K : PySem.W.Frag} {elts : List Expr} {kk : Nat} {tpos : Pos} {a b e z TI TO i1 i2 : Addr} (D : ZipApart z TI TO i1 i2 a b) (n1 : e ≠ z) (n2 : e ≠ TO) (n3 : e ≠ i1) (n4 : e ≠ i2) (n5 : e ≠ TI) :
    Turn P w K (.Tuple elts kk tpos) (ItEZ K a b) [e, z, TI, TO, i1, i2] e (fun i h => (∃ old, IsEnum h e z ((i : Nat) : Int) old) ∧ IsZk h z TI TO ∧ IsPair h TI (.ref i1) (.ref i2) ∧ (∃ x y, IsPair h TO x y) ∧ h.IsTupleIter i1 a i ∧ h.IsTupleIter i2 b i) where
  mem := by simp
  obj := fun i h st c hc => by
    obtain ⟨⟨old, he⟩, ⟨v0, f0, hz, _⟩, hTI, ⟨x, y, hTO⟩, ⟨o1, e1, _, d1⟩, ⟨o2, e2, _, d2⟩⟩ := st
    have e' : c = e ∨ c = z ∨ c = TI ∨ c = TO ∨ c = i1 ∨ c = i2 := by simpa using hc
    rcases e' with q | q | q | q | q | q
    · rw [q]; exact ⟨_, he, fun v q => nomatch q⟩
    · rw [q]; exact ⟨_, hz, fun v q => nomatch q⟩
    · rw [q]; exact ⟨_, hTI, fun v q => nomatch q⟩
    · rw [q]; exact ⟨_, hTO, fun v q => nomatch q⟩
    · rw [q]; exact ⟨o1, e1, fun v q => by rw [d1] at q; cases q⟩
    · rw [q]; exact ⟨o2, e2, fun v q => by rw [d2] at q; cases q⟩
  keep := fun i h h' st k => by
    obtain ⟨⟨old, he⟩, ⟨v0, f0, hz, hv⟩, hTI, ⟨x, y, hTO⟩, h1, h2⟩ := st
    exact ⟨⟨old, k e (by simp) _ he⟩, ⟨v0, f0, k z (by simp) _ hz, hv⟩, k TI (by simp) _ hTI, ⟨x, y, k TO (by simp) _ hTO⟩, h1.at fun o q => k i1 (by simp) o q, h2.at fun o q => k i2 (by simp) o q⟩
  item := by
    intro X hP hw hK hc i pins s σ H E I hf st hg
    subst hP hw hK
    obtain ⟨⟨old, he⟩, hz, hTI, ⟨x0, y0, hTO⟩, h1, h2⟩ := st
    obtain ⟨xs, ys, x, y, hqx, hqy, hx, hy⟩ := hg
    obtain ⟨its, rv, p, _⟩ := I.tuple hqx
    obtain ⟨its2, rv2, p2, _⟩ := I.tuple hqy
    obtain ⟨u, hu, ru⟩ := rv.get hx
    obtain ⟨u2, hu2, ru2⟩ := rv2.get hy
    have lt6 : ∀ c, c ∈ [e, z, TI, TO, i1, i2] → c < s.heap.objs.size := fun c hcm => by
      have e' : c = e ∨ c = z ∨ c = TI ∨ c = TO ∨ c = i1 ∨ c = i2 := by simpa using hcm
      rcases e' with q | q | q | q | q | q
      · rw [q]; exact Heap.lt_size he
      · rw [q]; obtain ⟨_, _, q, _⟩ := hz; exact Heap.lt_size q
      · rw [q]; exact Heap.lt_size hTI
      · rw [q]; exact Heap.lt_size hTO
      · rw [q]; obtain ⟨_, e1, _⟩ := h1; exact Heap.lt_size e1
      · rw [q]; obtain ⟨_, e1, _⟩ := h2; exact Heap.lt_size e1
    refine ez_item D n1 n2 n3 n4 n5 he hz hTI hTO h1 h2 p p2 (x := u) (y := u2) (by simpa using hu) (by simpa using hu2) fun h' tk e' z' TO' h1' h2' hP hT hsz hk => ?_
    refine ⟨_, rfl, wpAny_letOwnedTupleGo_enum (s := { s with heap := h', toks := tk + 1 }) e' fun h'' e'' sb => ?_⟩
    have ext : ∀ c o, c ∉ [e, z, TI, TO, i1, i2] → s.heap.get? c = some o → h''.get? c = some o := fun c o hb q => (sb.2 c (fun z => hb (by simp [z]))).trans (hk c o (fun z => hb (by simp [z])) (fun z => hb (by simp [z])) (fun z => hb (by simp [z])) (fun z => hb (by simp [z])) (fun z => hb (by simp [z])) q)
    have hel : e < s.heap.objs.size := lt6 e (by simp)
    have hP2 : IsPair h'' s.heap.objs.size u u2 := (sb.2 _ (Nat.ne_of_gt hel)).trans hP
    have hT2 : IsPair h'' (s.heap.objs.size + 1) (.int i tk) (.ref s.heap.objs.size) := (sb.2 _ (Nat.ne_of_gt (Nat.lt_succ_of_lt hel))).trans hT
    have hn0 : H s.heap.objs.size = none := I.hok.fresh (Nat.le_refl _)
    have hn1 : H (s.heap.objs.size + 1) = none := I.hok.fresh (Nat.le_succ _)
    obtain ⟨G, g1, g2⟩ := L2.restrict h'' fun c => decide (c ≠ s.heap.objs.size + 1)
    have gk : ∀ c o, c ≠ s.heap.objs.size + 1 → h''.get? c = some o → G.get? c = some o := fun c o n q => by rw [g1 c (decide_eq_true n)]; exact q
    have ga : G.get? (s.heap.objs.size + 1) = none := g2 _ (decide_eq_false fun z => z rfl)
    have gs : ∀ c o, G.get? c = some o → h''.get? c = some o := fun c o q => by
      by_cases n : c = s.heap.objs.size + 1
      · rw [n, ga] at q; cases q
      · rw [← g1 c (decide_eq_true n)]; exact q
    have hPG : IsPair G s.heap.objs.size u u2 := gk _ _ (Nat.ne_of_lt (Nat.lt_succ_self _)) hP2
    have new1 : ObjOk X.prog X.w (upd H s.heap.objs.size (.tup [x, y])) G s.heap.objs.size (.tup [x, y]) :=
      ⟨by show 2 ≤ sizeLine; decide, [u, u2], .cons ru (.cons ru2 .nil), ⟨_, hPG, rfl, _, rfl⟩⟩
    have I1 : Inv X pins σ (upd H s.heap.objs.size (.tup [x, y])) { s with heap := G, toks := tk + 1 } :=
      I.turnedNew (ch := [e, z, TI, TO, i1, i2]) (fun c o hb q => gk c o (Nat.ne_of_lt (Nat.lt_succ_of_lt (Heap.lt_size q))) (ext c o hb q)) hf (Nat.le_refl _) new1
    have n01 : s.heap.objs.size + 1 ≠ s.heap.objs.size := Nat.succ_ne_self _
    have new2 : ObjOk X.prog X.w (upd (upd H s.heap.objs.size (.tup [x, y])) (s.heap.objs.size + 1) (.tup [.int (i : Nat), .ref s.heap.objs.size])) h'' (s.heap.objs.size + 1) (.tup [.int (i : Nat), .ref s.heap.objs.size]) :=
      ⟨by show 2 ≤ sizeLine; decide, [.int i tk, .ref s.heap.objs.size], .cons ⟨_, rfl⟩ (.cons rfl .nil), ⟨_, hT2, rfl, _, rfl⟩⟩
    have I2 := I1.laidN (h' := h'') (t' := tk + 1) gs ga (by rw [upd_ne n01]; exact hn1) new2
    refine ⟨.ref (s.heap.objs.size + 1), _, I2, rfl, ⟨_, _, x, y, rfl, hn0, n01, hn1, rfl, fun l hl => by rw [I.tuple_inj hl hqx]; exact hx, fun l hl => by rw [I.tuple_inj hl hqy]; exact hy⟩, ⟨⟨.ref s.heap.objs.size, ?_⟩, ?_, ?_, ?_, ?_, ?_⟩, fun c hcm => ?_⟩
    · have e1 : ((i + 1 : Nat) : Int) = (i : Int) + 1 := by omega
      rw [e1]; exact e''
    · obtain ⟨v, f, q, hv⟩ := z'
      exact ⟨v, f, (sb.2 z (Ne.symm n1)).trans q, hv⟩
    · exact (sb.2 TI (Ne.symm n5)).trans (hk _ _ (Ne.symm n5) D.TIz D.TITO D.TIi1 D.TIi2 hTI)
    · obtain ⟨c, d, q⟩ := TO'
      exact ⟨c, d, (sb.2 TO (Ne.symm n2)).trans q⟩
    · exact h1'.at fun o q => (sb.2 i1 (Ne.symm n3)).trans q
    · exact h2'.at fun o q => (sb.2 i2 (Ne.symm n4)).trans q
    · have hlt := lt6 c hcm
      rw [upd_ne (Nat.ne_of_lt (Nat.lt_succ_of_lt hlt)), upd_ne (Nat.ne_of_lt hlt)]
      exact (hf c hcm).1
  done := by
    intro X hP hw hK hc i pins s σ H E I hf st hg
    subst hP hw hK
    obtain ⟨⟨old, he⟩, hz, hTI, ⟨x0, y0, hTO⟩, h1, h2⟩ := st
    obtain ⟨xs, ys, hqx, hqy, hend⟩ := hg
    obtain ⟨its, rv, p, _⟩ := I.tuple hqx
    obtain ⟨its2, rv2, p2, _⟩ := I.tuple hqy
    have l1 := rv.length
    have l2 := rv2.length
    have he2 : its.toArray[i]? = none ∨ its2.toArray[i]? = none := by
      rcases hend with q | q
      · exact .inl (by simp; omega)
      · exact .inr (by simp; omega)
    exact ez_done (show X.A.in1.handled = none from I.ok.hd hc) D he hz hTI hTO h1 h2 p p2 he2 fun h' hk => ⟨rfl, I.turnedL (t' := s.toks) (ch := [e, z, TI, TO, i1, i2]) (fun c o hb q =>
      hk c o (fun q' => hb (by simp [q'])) (fun q' => hb (by simp [q'])) (fun q' => hb (by simp [q'])) (fun q' => hb (by simp [q'])) q) hf⟩
  self := fun A i s Q E st h => let ⟨⟨_, he⟩, _⟩ := st; wpAny_pyIter_enum he h
def iEZ (K : PySem.W.Frag) (ta : TA) : TI := fun σ H R => ta σ H fun vs H1 => ∃ a b xs ys, vs = [.ref a, .ref b] ∧ SqT K H1 a xs ∧ SqT K H1 b ys ∧ R (ItEZ K a b) H1
theorem pi_ez {X : Cx} {e e2 : Expr} {ta : TA} {p p2 pos pos2 tpos : Pos} {elts : List Expr} {kk : Nat} (hge : Gl X "enumerate") (hme : X.mg "enumerate" = none) (hg : Gl X "zip") (hm : X.mg "zip" = none) (ha : PA X [e, e2] ta)
    (hs : starEach [e, e2] X.env = (false, eval e X.env) :: starEach [e2] X.env := by rfl) (hpl : (backTo pos2 (starEach [e2] X.env)).any (·.1) = false := by rfl) (hs1 : starEach [.Call (.Name "zip" p2) [e, e2] [] pos2] X.env = [(false, eval (.Call (.Name "zip" p2) [e, e2] [] pos2) X.env)] := by rfl) :
    PI X (.Tuple elts kk tpos) (.Call (.Name "enumerate" p) [.Call (.Name "zip" p2) [e, e2] [] pos2] [] pos) (iEZ X.K ta) := by
  refine ⟨fun pins s σ H R I h => ?_⟩
  refine Call_ (ld_blt I hge hme boot_enumerate (PyProof.Rows.callWith_type1 ?_ hs1 rfl))
  rw [hs1]
  show wpAny _ _ (spliced ((false, eval (.Call (.Name "zip" p2) [e, e2] [] pos2) X.env) :: backTo pos (starEach [] X.env))) _ _ s
  refine Calls.spliced_cons ?_
  refine Call_ (ld_blt I hg hm PyProof.Rows.boot_zip (PyProof.Rows.callWith_type1 (thn (ha.run pos2 pins s σ H _ I h) fun us s1 ⟨vs, H1, I1, r1, q1⟩ => ?_) hs hpl))
  obtain ⟨a, b, xs, ys, ex, hqx, hqy, q⟩ := q1
  subst ex
  cases r1 with
  | cons r rr =>
    cases rr with
    | cons r' rr =>
      cases rr
      cases r
      cases r'
      obtain ⟨its, rv, p1, _⟩ := I1.tuple hqx
      obtain ⟨its2, rv2, p3, _⟩ := I1.tuple hqy
      obtain ⟨o1, ho1, _⟩ := id p1
      obtain ⟨o2, ho2, _⟩ := id p3
      refine call_zipT (show s1.heap.IsTuple a its.toArray from p1) (show s1.heap.IsTuple b its2.toArray from p3) fun h' hz hTI hTO h1 h2 hsz hk => Calls.spliced_nil ?_
      refine call_enumZ (s := { s1 with heap := h' }) hz fun h'' he hsz2 hk2 => wpAny_pyIter_enum he ?_
      have hsz' : h'.objs.size = s1.heap.objs.size + 5 := hsz
      rw [show ({ s1 with heap := h' } : Shared).heap.objs.size = s1.heap.objs.size + 5 from hsz'] at he hsz2 ⊢
      have I2 : Inv X pins σ H1 { s1 with heap := h'' } := I1.kept (t' := s1.toks) fun c o q => hk2 _ _ (hk _ _ q)
      have fresh6 : ∀ c, c ∈ [s1.heap.objs.size + 5, s1.heap.objs.size + 4, s1.heap.objs.size + 2, s1.heap.objs.size + 3, s1.heap.objs.size, s1.heap.objs.size + 1] → FpOk X pins H1 c := fun c hcm => by
        have hle : s1.heap.objs.size ≤ c := by
          have e' : c = s1.heap.objs.size + 5 ∨ c = s1.heap.objs.size + 4 ∨ c = s1.heap.objs.size + 2 ∨ c = s1.heap.objs.size + 3 ∨ c = s1.heap.objs.size ∨ c = s1.heap.objs.size + 1 := by simpa using hcm
          rcases e' with z | z | z | z | z | z <;> rw [z]
          · exact Nat.le_add_right _ _
          · exact Nat.le_add_right _ _
          · exact Nat.le_add_right _ _
          · exact Nat.le_add_right _ _
          · exact Nat.le_refl _
          · exact Nat.le_add_right _ _
        exact I1.fpOk hle (I1.hok.fresh hle)
      exact ⟨s1.heap.objs.size + 5, _, _, _, H1, rfl, I2, turn_ez (PySem.W.ktu_apart s1.heap.objs.size a b (Heap.lt_size ho1) (Heap.lt_size ho2)) (Nat.succ_ne_self _) (Ne.symm (Nat.ne_of_lt (Nat.add_lt_add_left (by decide) _))) (Ne.symm (Nat.ne_of_lt (Nat.lt_add_of_pos_right (by decide)))) (Ne.symm (Nat.ne_of_lt (Nat.add_lt_add_left (by decide) _))) (Ne.symm (Nat.ne_of_lt (Nat.add_lt_add_left (by decide) _))),
        ⟨⟨_, he⟩, ⟨_, _, hk2 _ _ hz, .inl rfl⟩, hk2 _ _ hTI, ⟨_, _, hk2 _ _ hTO⟩, h1.at fun o q => hk2 _ _ q, h2.at fun o q => hk2 _ _ q⟩, fresh6, q⟩
end RZ
namespace Tw
open PySem PySem.Spec PyProof.Rows L2
theorem n_ez {P : Program} {w : World} {K : PySem.W.Frag} {mg : Str → Option Value} {base : Heap} {j : Nat} {X : Cx} {NS WS : List (Str × Nat)} {G : List Str} {e e2 : Expr} {ta : TA} {p p2 pos pos2 tpos : Pos} {elts : List Expr} {kk : Nat} (h : Nm P w K mg base j X NS WS G) (hme : mg "enumerate" = none) (hmz : mg "zip" = none)
    (hge : ("enumerate" : Str) ∈ G) (hgz : ("zip" : Str) ∈ G) (ha : PA X [e, e2] ta) (hs : starEach [e, e2] X.env = (false, eval e X.env) :: starEach [e2] X.env := by rfl) (hpl : (backTo pos2 (starEach [e2] X.env)).any (·.1) = false := by rfl)
    (hs1 : starEach [.Call (.Name "zip" p2) [e, e2] [] pos2] X.env = [(false, eval (.Call (.Name "zip" p2) [e, e2] [] pos2) X.env)] := by rfl) :
    PI X (.Tuple elts kk tpos) (.Call (.Name "enumerate" p) [.Call (.Name "zip" p2) [e, e2] [] pos2] [] pos) (RZ.iEZ K ta) := by
  have q := h.eK
  subst q
  exact RZ.pi_ez (h.gl _ hge).1 (by rw [h.em]; exact hme) (h.gl _ hgz).1 (by rw [h.em]; exact hmz) ha hs hpl hs1
end Tw
namespace Tw
open PySem PySem.Spec PyProof.Rows L2 LamX
/-! ### a dict of keys seen; the first difference of two machines, as it is looked for -/
/-- keys that are tuples of ints, each told as True -/
def FdL (H : Hp) (d : Addr) (ks : List KeyL) : Prop := ∃ kvs : List (List Key × V), H d = some (.dT kvs) ∧ kvs.length ≤ ks.length ∧ ∀ c : KeyL, valV kvs (kyL c) = if c ∈ ks then some (.bl true) else none
theorem FdL.get {H : Hp} {d a : Addr} {ks : List KeyL} (h : FdL H d ks) {c : KeyL} (ha : H a = some (.tup (c.map V.int))) : DGet H d (.ref a) (if c ∈ ks then some (.bl true) else none) := by
  obtain ⟨kvs, h1, h2, h3⟩ := h
  rw [← kyL_kV] at ha
  have g := DGet.t (k := kyL c) h1 ha
  rw [h3 c] at g
  exact g
theorem FdL.put {H : Hp} {d a : Addr} {ks : List KeyL} (h : FdL H d ks) {c : KeyL} (ha : H a = some (.tup (c.map V.int))) (hl : ks.length < 1000) : ∃ kvs, DPut H d (.ref a) (.bl true) (upd H d (.dT kvs)) ∧ FdL (upd H d (.dT kvs)) d (ks ++ [c]) := by
  obtain ⟨kvs, h1, h2, h3⟩ := h
  rw [← kyL_kV] at ha
  refine ⟨putK kvs (kyL c) (.bl true), DPut.t (k := kyL c) h1 ha (small1000 (by omega)), _, upd_same, ?_, fun e => ?_⟩
  · have := length_putK kvs (kyL c) (V.bl true)
    rw [List.length_append]
    show _ ≤ ks.length + 1
    omega
  · rw [valV_put]
    by_cases q : e = c
    · subst q
      rw [if_pos rfl, if_pos (by simp)]
    · rw [if_neg (fun z => q (kyL_inj z)), h3 e]
      by_cases m : e ∈ ks
      · rw [if_pos m, if_pos (List.mem_append_left _ m)]
      · rw [if_neg m, if_neg (fun z => by
          rcases List.mem_append.mp z with z | z
          · exact m z
          · exact q (List.mem_singleton.mp z))]
theorem FdL.same {H H' : Hp} {d : Addr} {ks : List KeyL} (h : FdL H d ks) (e : Same H H') : FdL H' d ks := by
  obtain ⟨kvs, h1, h2⟩ := h
  exact ⟨kvs, e _ _ h1, h2⟩
theorem FdL.ne {H : Hp} {d a : Addr} {ks : List KeyL} {xs : List V} (h : FdL H d ks) (e : H a = some (.lst xs)) : a ≠ d := by
  obtain ⟨kvs, h1, h2⟩ := h
  exact ne_of e h1 (by intro q; cases q)
theorem FdL.lst {H : Hp} {d a : Addr} {ks : List KeyL} {xs ys : List V} (h : FdL H d ks) (e : H a = some (.lst xs)) : FdL (upd H a (.lst ys)) d ks := by
  have n := h.ne e
  obtain ⟨kvs, h1, h2⟩ := h
  exact ⟨kvs, by rw [upd_ne n.symm]; exact h1, h2⟩
theorem fdL_one {H : Hp} {d : Addr} {c : KeyL} (h : H d = some (.dT [(kyL c, .bl true)])) : FdL H d [c] := by
  refine ⟨_, h, Nat.le_refl _, fun e => ?_⟩
  by_cases q : c = e
  · subst q
    rw [valV_pos rfl, if_pos List.mem_cons_self]
  · rw [valV_neg (fun z => q (kyL_inj z)), valV_nil, if_neg (fun z => q (List.mem_singleton.mp z).symm)]
/-- pairs of ints in a list -/
def PrsAt (H : Hp) (xs : List V) (ss : List (Int × Int)) : Prop := KlsAt H xs (ss.map fun s => [s.1, s.2])
/-- the pairs behind a pair -/
def sucW (p : Nat) (M N : Mach) (c : KeyL) : List KeyL := (List.range p).map fun x : Nat => [goM M (c.getD 0 0) (x : Int), goM N (c.getD 1 0) (x : Int)]
/-- one pair is looked at: whether it is new, where it was come to -/
def stepW (a : Int) (f : Nat) (g : KeyL) (q : List KeyL × List (Int × Int)) : List KeyL × List (Int × Int) := if g ∈ q.1 then q else (q.1 ++ [g], q.2 ++ [(a, (f : Int))])
def rowW (a : Int) : Nat → List KeyL → List KeyL × List (Int × Int) → List KeyL × List (Int × Int)
  | _, [], q => q
  | f, g :: gs, q => rowW a (f + 1) gs (stepW a f g q)
/-- the figures that lead to a pair, the last first -/
def wayR (ss : List (Int × Int)) : Nat → Int → List Int
  | 0, _ => []
  | n + 1, a => if 0 < a then (ss.getD a.toNat (0, 0)).2 :: wayR ss n (ss.getD a.toNat (0, 0)).1 else []
def wayW (ss : List (Int × Int)) (a : Nat) : List Int := (wayR ss a (a : Int)).reverse
/-- the search, from the pair numbered a on -/
def runW (p : Nat) (M N : Mach) : Nat → Nat → List KeyL × List (Int × Int) → Option (Option (List Int))
  | 0, _, _ => none
  | n + 1, a, q => match q.1[a]? with
    | none => some none
    | some c => if turnM M (c.getD 0 0) = turnM N (c.getD 1 0) then (if q.1.length ≤ 800 then runW p M N n (a + 1) (rowW (a : Int) 0 (sucW p M N c) q) else none) else some (some (wayW q.2 a ++ [0]))
theorem rowW_app (a : Int) : ∀ (xs ys : List KeyL) (f : Nat) (q : List KeyL × List (Int × Int)), rowW a f (xs ++ ys) q = rowW a (f + xs.length) ys (rowW a f xs q)
  | [], ys, f, q => rfl
  | g :: xs, ys, f, q => by
    show rowW a (f + 1) (xs ++ ys) (stepW a f g q) = rowW a (f + (xs.length + 1)) ys (rowW a (f + 1) xs (stepW a f g q))
    rw [rowW_app a xs ys (f + 1), show f + 1 + xs.length = f + (xs.length + 1) by omega]
theorem rowW_take {a : Int} {gs : List KeyL} {i : Nat} {g : KeyL} {q : List KeyL × List (Int × Int)} (h : gs[i]? = some g) : rowW a 0 (gs.take (i + 1)) q = stepW a i g (rowW a 0 (gs.take i) q) := by
  have hi := (List.getElem?_eq_some_iff.mp h).1
  rw [List.take_add_one, h]
  show rowW a 0 (gs.take i ++ [g]) q = _
  rw [rowW_app, List.length_take, Nat.min_eq_left (Nat.le_of_lt hi), Nat.zero_add]; rfl
/-- the two lists go together; each step tells a pair before it -/
structure StW (q : List KeyL × List (Int × Int)) : Prop where
  len : q.1.length = q.2.length
  back : ∀ (i : Nat) s, q.2[i]? = some s → 0 < i → 0 ≤ s.1 ∧ s.1 < (i : Int)
theorem stepW_ok {a : Nat} {f : Nat} {g : KeyL} {q : List KeyL × List (Int × Int)} (h : StW q) (ha : a < q.1.length) : StW (stepW (a : Int) f g q) ∧ q.1.length ≤ (stepW (a : Int) f g q).1.length ∧ (stepW (a : Int) f g q).1.length ≤ q.1.length + 1 := by
  unfold stepW
  by_cases m : g ∈ q.1
  · rw [if_pos m]; exact ⟨h, Nat.le_refl _, Nat.le_succ _⟩
  · rw [if_neg m]
    refine ⟨⟨by simp [h.len], fun i s hs hi => ?_⟩, by simp, by simp⟩
    by_cases c : i < q.2.length
    · rw [List.getElem?_append_left c] at hs
      exact h.back i s hs hi
    · rw [List.getElem?_append_right (by omega)] at hs
      have e : i = q.2.length := by
        have := (List.getElem?_eq_some_iff.mp hs).1
        simp at this
        omega
      subst e
      rw [Nat.sub_self] at hs
      cases hs
      exact ⟨Int.natCast_nonneg _, by rw [← h.len]; exact Int.ofNat_lt.mpr ha⟩
theorem rowW_ok {a : Nat} : ∀ {gs : List KeyL} {f : Nat} {q : List KeyL × List (Int × Int)}, StW q → a < q.1.length → StW (rowW (a : Int) f gs q) ∧ q.1.length ≤ (rowW (a : Int) f gs q).1.length ∧ (rowW (a : Int) f gs q).1.length ≤ q.1.length + gs.length
  | [], f, q, h, ha => ⟨h, Nat.le_refl _, Nat.le_refl _⟩
  | g :: gs, f, q, h, ha => by
    obtain ⟨h1, h2, h3⟩ := stepW_ok (f := f) (g := g) h ha
    obtain ⟨h4, h5, h6⟩ := rowW_ok (gs := gs) (f := f + 1) h1 (by omega : a < (stepW (a : Int) f g q).1.length)
    exact ⟨h4, Nat.le_trans h2 h5, by rw [List.length_cons]; exact Nat.le_trans h6 (by omega)⟩
end Tw
namespace Tw
open PySem PySem.Spec PyProof.Rows L2 LamX
/-! ### where the search for a first difference ends -/
theorem nodup_leL : ∀ {ks all : List KeyL}, ks.Nodup → (∀ c ∈ ks, c ∈ all) → ks.length ≤ all.length
  | [], _, _, _ => Nat.zero_le _
  | c :: r, all, hn, hs => by
    have n2 := List.nodup_cons.mp hn
    have hc := hs c List.mem_cons_self
    have h := nodup_leL (all := all.erase c) n2.2 fun d hd => (List.mem_erase_of_ne (fun e : d = c => n2.1 (by rw [← e]; exact hd))).mpr (hs d (List.mem_cons_of_mem _ hd))
    have hp := List.length_pos_of_mem hc
    rw [List.length_erase_of_mem hc] at h
    show r.length + 1 ≤ all.length
    omega
theorem stepW_mem {a : Int} {f : Nat} {g c : KeyL} {q : List KeyL × List (Int × Int)} (h : c ∈ (stepW a f g q).1) : c ∈ q.1 ∨ c = g := by
  unfold stepW at h
  by_cases m : g ∈ q.1
  · rw [if_pos m] at h; exact .inl h
  · rw [if_neg m] at h
    rcases List.mem_append.mp h with z | z
    · exact .inl z
    · exact .inr (List.mem_singleton.mp z)
theorem stepW_nodup {a : Int} {f : Nat} {g : KeyL} {q : List KeyL × List (Int × Int)} (h : q.1.Nodup) : (stepW a f g q).1.Nodup := by
  unfold stepW
  by_cases m : g ∈ q.1
  · rw [if_pos m]; exact h
  · rw [if_neg m]
    refine List.nodup_append.mpr ⟨h, by simp, fun x hx y hy e => ?_⟩
    subst e
    exact m (List.mem_singleton.mp hy ▸ hx)
theorem rowW_mem {a : Int} {c : KeyL} : ∀ {gs : List KeyL} {f : Nat} {q : List KeyL × List (Int × Int)}, c ∈ (rowW a f gs q).1 → c ∈ q.1 ∨ c ∈ gs
  | [], _, _, h => .inl h
  | g :: gs, f, q, h => by
    rcases rowW_mem (gs := gs) (f := f + 1) (q := stepW a f g q) h with z | z
    · rcases stepW_mem z with y | y
      · exact .inl y
      · exact .inr (y ▸ List.mem_cons_self)
    · exact .inr (List.mem_cons_of_mem _ z)
theorem rowW_nodup {a : Int} : ∀ {gs : List KeyL} {f : Nat} {q : List KeyL × List (Int × Int)}, q.1.Nodup → (rowW a f gs q).1.Nodup
  | [], _, _, h => h
  | g :: gs, f, q, h => rowW_nodup (gs := gs) (f := f + 1) (q := stepW a f g q) (stepW_nodup h)
theorem rowW_le {a : Int} : ∀ {gs : List KeyL} {f : Nat} {q : List KeyL × List (Int × Int)}, q.1.length ≤ (rowW a f gs q).1.length
  | [], _, _ => Nat.le_refl _
  | g :: gs, f, q => by
    refine Nat.le_trans ?_ (rowW_le (gs := gs) (f := f + 1) (q := stepW a f g q))
    unfold stepW
    by_cases m : g ∈ q.1
    · rw [if_pos m]; exact Nat.le_refl _
    · rw [if_neg m, List.length_append]; exact Nat.le_succ _
theorem sucW_mem {p : Nat} {M N : Mach} {c g : KeyL} (h : g ∈ sucW p M N c) : ∃ x : Nat, x < p ∧ g = [goM M (c.getD 0 0) (x : Int), goM N (c.getD 1 0) (x : Int)] := by
  obtain ⟨x, hx, rfl⟩ := List.mem_map.mp h
  exact ⟨x, List.mem_range.mp hx, rfl⟩
/-! the two machines of the law's end -/
end Tw
namespace Tw
open PySem PySem.Spec PyProof.Rows L2
local macro_rules | `(tactic| walk_at "mem") => `(tactic| with_reducible (first | exact p0 | exact pS p0 | exact pS (pS p0) | exact pS (pS (pS p0)) | exact pS (pS (pS (pS p0))) | exact pS (pS (pS (pS (pS p0)))) | exact pS (pS (pS (pS (pS (pS p0))))) | exact pS (pS (pS (pS (pS (pS (pS p0)))))) | exact pS (pS (pS (pS (pS (pS (pS (pS p0))))))) | exact pS (pS (pS (pS (pS (pS (pS (pS (pS p0)))))))) | exact pS (pS (pS (pS (pS (pS (pS (pS (pS (pS p0))))))))) | exact pS (pS (pS (pS (pS (pS (pS (pS (pS (pS (pS p0)))))))))) | exact pS (pS (pS (pS (pS (pS (pS (pS (pS (pS (pS (pS p0))))))))))) | exact pS (pS (pS (pS (pS (pS (pS (pS (pS (pS (pS (pS (pS p0)))))))))))) | exact pS (pS (pS (pS (pS (pS (pS (pS (pS (pS (pS (pS (pS (pS p0))))))))))))) | exact pS (pS (pS (pS (pS (pS (pS (pS (pS (pS (pS (pS (pS (pS (pS p0)))))))))))))) | exact pS (pS (pS (pS (pS (pS (pS (pS (pS (pS (pS (pS (pS (pS (pS (pS p0))))))))))))))) | exact pS (pS (pS (pS (pS (pS (pS (pS (pS (pS (pS (pS (pS (pS (pS (pS (pS p0))))))))))))))))))
local macro_rules | `(tactic| walk_at "as") => `(tactic| with_reducible assumption)
local macro_rules | `(tactic| walk_at "pv") => `(tactic| (refine' n_v (by walk_at "as") ?vm; (case vm => walk_at "mem")))
local macro_rules | `(tactic| walk_at "pa") => `(tactic| first | exact pa_nil | (refine' pa_cons ?pa1 ?pa2; (case pa1 => walk_at "pe"); (case pa2 => walk_at "pa")))
local macro_rules | `(tactic| walk_at "op") => `(tactic| with_reducible (first | exact op_add | exact op_sub | exact op_mul | exact op_mod | exact op_fdiv | exact op_pow))
local macro_rules | `(tactic| walk_at "cmp") => `(tactic| with_reducible (first | exact op_eq | exact op_ne | exact op_lt | exact op_le | exact op_gt | exact op_ge | exact op_notN | exact op_isN))
local macro_rules | `(tactic| walk_at "blt") => `(tactic| first
  | (refine' n_len (by walk_at "as") (by walk_at "as") ?bg ?ba; (case bg => walk_at "mem"); (case ba => walk_at "pa"))
  | (refine' n_t (x := "int") (by walk_at "as") (by walk_at "as") call_int1 PyProof.Rows.boot_int ?bg ?ba; (case bg => walk_at "mem"); (case ba => walk_at "pa"))
  | (refine' n_b (x := "abs") (by walk_at "as") (by walk_at "as") call_abs boot_abs ?bg ?ba; (case bg => walk_at "mem"); (case ba => walk_at "pa"))
  | (refine' n_t (x := "list") (by walk_at "as") (by walk_at "as") call_list_of PyProof.Rows.boot_list ?bg ?ba; (case bg => walk_at "mem"); (case ba => walk_at "pa"))
  | (refine' n_t (x := "tuple") (by walk_at "as") (by walk_at "as") call_tuple_of PyProof.Rows.boot_tuple ?bg ?ba; (case bg => walk_at "mem"); (case ba => walk_at "pa"))
  | (refine' n_isiT (by walk_at "as") (by walk_at "as") ?bg (pa_cons ?i1 (pa_cons (pe_tup ?i2) pa_nil)); (case bg => walk_at "mem"); (case i1 => walk_at "pe"); (case i2 => walk_at "pa"))
  | (refine' n_isi (by walk_at "as") (by walk_at "as") ?bg ?ba; (case bg => walk_at "mem"); (case ba => walk_at "pa"))
  | (refine' n_b (x := "all") (by walk_at "as") (by walk_at "as") (cr_all (Nm.calm (by walk_at "as"))) PyProof.Rows.boot_all ?bg ?ba; (case bg => walk_at "mem"); (case ba => walk_at "pa")))
local macro_rules | `(tactic| walk_at "usr") => `(tactic| (refine' n_d (by walk_at "as") (by walk_at "as") (by decide) ?ug ?ua; (case ug => walk_at "mem"); (case ua => walk_at "pa")))
local macro_rules | `(tactic| walk_at "po") => `(tactic| first | exact po_none | (refine' po_some ?poe; (case poe => walk_at "pe")))
local macro_rules | `(tactic| walk_at "gl") => `(tactic| first
  | (refine' n_glR (by walk_at "as") (by walk_at "as") ?gg; (case gg => walk_at "mem"))
  | (refine' n_glI (by walk_at "as") (by walk_at "as") ?gg; (case gg => walk_at "mem"))
  | (refine' n_bv (x := "int") (v := V.ty "int") (by walk_at "as") (by walk_at "as") PyProof.Rows.boot_int rfl ?gg; (case gg => walk_at "mem"))
  | (refine' n_bv (x := "bool") (v := V.ty "bool") (by walk_at "as") (by walk_at "as") PyProof.Rows.boot_bool rfl ?gg; (case gg => walk_at "mem"))
  | (refine' n_bv (x := "list") (v := V.ty "list") (by walk_at "as") (by walk_at "as") PyProof.Rows.boot_list rfl ?gg; (case gg => walk_at "mem"))
  | (refine' n_bv (x := "tuple") (v := V.ty "tuple") (by walk_at "as") (by walk_at "as") PyProof.Rows.boot_tuple rfl ?gg; (case gg => walk_at "mem"))
  | (refine' n_bv (x := "str") (v := V.ty "str") (by walk_at "as") (by walk_at "as") PyProof.Rows.boot_str rfl ?gg; (case gg => walk_at "mem")))
local macro_rules | `(tactic| walk_at "peT") => `(tactic| first
  | (refine' n_ixT (by walk_at "as") ?ia ?ib (fun _ _ => rfl); (case ia => walk_at "peT"); (case ib => walk_at "pe"))
  | walk_at "pe")
local macro_rules | `(tactic| walk_at "pb") => `(tactic| first
  | (refine' pe_one ?b1; (case b1 => walk_at "pe"))
  | (refine' pe_and ?b1 ?b2; (case b1 => walk_at "pe"); (case b2 => walk_at "pb"))
  | (refine' pe_or ?b1 ?b2; (case b1 => walk_at "pe"); (case b2 => walk_at "pb")))
local macro_rules | `(tactic| walk_at "pe") => `(tactic| first
  | walk_at "pv"
  | exact pe_int | exact pe_bl | exact pe_non | exact pe_str
  | (refine' pe_op ?po ?pl ?pr; (case po => walk_at "op"); (case pl => walk_at "pe"); (case pr => walk_at "pe"))
  | (refine' pe_slice sl_list ?sx ?sl ?su; (case sx => walk_at "pe"); (case sl => walk_at "po"); (case su => walk_at "po"))
  | (refine' n_ixL (by walk_at "as") ?ia ?ib (fun _ _ => rfl); (case ia => walk_at "pe"); (case ib => walk_at "pe"))
  | (refine' pe_lst ?la; (case la => walk_at "pa"))
  | (refine' pe_tup ?la; (case la => walk_at "pa"))
  | walk_at "blt"
  | walk_at "usr"
  | (refine' n_sm (by walk_at "as") (by walk_at "as") ?mg (by walk_at "as") (by decide) ?ma; (case mg => walk_at "mem"); (case ma => walk_at "pa"))
  | (refine' n_mK (by walk_at "as") (by walk_at "as") (by walk_at "as") (by decide) ?mo (pk_cons ?mk pk_nil); (case mo => walk_at "pe"); (case mk => walk_at "pe"))
  | (refine' n_m (by walk_at "as") (by walk_at "as") (by walk_at "as") (by decide) ?mo ?ma; (case mo => walk_at "pe"); (case ma => walk_at "pa"))
  | (refine' n_m0 (by walk_at "as") (by walk_at "as") (by walk_at "as") (by decide) ?mo; (case mo => walk_at "pe"))
  | (refine' pe_bm PySem.F.plainAttrs_list PySem.F.slot_list_append PySem.F.type_list_append mt_append ?mo ?ma; (case mo => walk_at "pe"); (case ma => walk_at "pa"))
  | (refine' pe_cmpR ?co ?cl ?cr (nomark _); (case co => walk_at "cmp"); (case cl => walk_at "pe"); (case cr => walk_at "pe"))
  | (refine' pe_chain ?co ?cp ?cl ?cm ?cr; (case co => walk_at "cmp"); (case cp => walk_at "cmp"); (case cl => walk_at "pe"); (case cm => walk_at "pe"); (case cr => walk_at "pe"))
  | (refine' pe_not ?nv; (case nv => walk_at "pe"))
  | walk_at "pb"
  | walk_at "gl"
  | (refine' ClX.pe_cval ?cv; (case cv => walk_at "gl"))
  | (refine' n_fldK (by walk_at "as") ?fv; (case fv => walk_at "pe"))
  | (refine' n_coK (by walk_at "as") (by walk_at "as") (by decide) ?cf (pk_cons ?ck pk_nil); (case cf => walk_at "pe"); (case ck => walk_at "pe"))
  | (refine' n_co (by walk_at "as") (by walk_at "as") (by decide) ?cf ?ca; (case cf => walk_at "pe"); (case ca => walk_at "pa"))
  | (refine' pe_ifExp ?qc ?qa ?qb; (case qc => walk_at "pt"); (case qa => walk_at "pe"); (case qb => walk_at "pe")))
local macro_rules | `(tactic| walk_at "pw") => `(tactic| first
  | (refine' pw_and1 ?wa; (case wa => walk_at "pt")) | (refine' pw_or1 ?wa; (case wa => walk_at "pt"))
  | (refine' pw_and ?wa ?wb; (case wa => walk_at "pt"); (case wb => walk_at "pw"))
  | (refine' pw_or ?wa ?wb; (case wa => walk_at "pt"); (case wb => walk_at "pw")))
local macro_rules | `(tactic| walk_at "pt") => `(tactic| first
  | (refine' pt_cmpR op_notIn_seq ?cl ?cr (by with_unfolding_all rfl); (case cl => walk_at "pe"); (case cr => walk_at "pe"))
  | (refine' pt_cmpR op_in_seq ?cl ?cr (by with_unfolding_all rfl); (case cl => walk_at "pe"); (case cr => walk_at "pe"))
  | (refine' pt_cmpR ?co ?cl ?cr (nomark _); (case co => walk_at "cmp"); (case cl => walk_at "pe"); (case cr => walk_at "pe"))
  | (refine' pt_chain ?co ?cp ?cl ?cm ?cr; (case co => walk_at "cmp"); (case cp => walk_at "cmp"); (case cl => walk_at "pe"); (case cm => walk_at "pe"); (case cr => walk_at "pe"))
  | (refine' pt_not ?na; (case na => walk_at "pt"))
  | (refine' PW.pt ?wv; (case wv => walk_at "pw"))
  | (refine' pt_val ?vv; (case vv => walk_at "pe")))
local macro_rules | `(tactic| walk_at "pg") => `(tactic| first
  | (refine' n_g (by walk_at "as") ?vm; (case vm => walk_at "mem"))
  | (refine' pg_sub ?go ?gi set_list; (case go => walk_at "pe"); (case gi => walk_at "pe"))
  | (refine' n_tupK (by walk_at "as") ?gs; (case gs => walk_at "pgs")))
local macro_rules | `(tactic| walk_at "pgs") => `(tactic| first | exact pgs_nil | (refine' pgs_cons ?g1 ?g2; (case g1 => walk_at "pg"); (case g2 => walk_at "pgs")))
local macro_rules | `(tactic| walk_at "pi") => `(tactic| first
  | (refine' n_rng (by walk_at "as") (by walk_at "as") ?rg ?ra; (case rg => walk_at "mem"); (case ra => walk_at "pa"))
  | (refine' n_enum (by walk_at "as") (by walk_at "as") ?rg ?ra; (case rg => walk_at "mem"); (case ra => walk_at "pa"))
  | (refine' n_zip (by walk_at "as") (by walk_at "as") ?rg ?ra; (case rg => walk_at "mem"); (case ra => walk_at "pa"))
  | (refine' pi_list ?rl; (case rl => walk_at "pe")))
local macro_rules | `(tactic| walk_at "ps") => `(tactic| first
  | (refine' ps_if ?fc ?fa ?fb; (case fc => walk_at "pt"); (case fa => walk_at "pss"); (case fb => walk_at "pss"))
  | (refine' ps_ret ?re; (case re => walk_at "pe"))
  | exact ps_retN
  | (with_reducible refine' (@ps_never _ (.Raise _ _ _)))
  | (refine' ps_asg ?ae ?ag; (case ae => walk_at "pe"); (case ag => walk_at "pg"))
  | (refine' ps_fld ?fo ?fe (by rfl); (case fo => walk_at "pe"); (case fe => walk_at "pe"))
  | (refine' ps_expr ?ee; (case ee => walk_at "pe"))
  | (refine' n_for (by walk_at "as") PassesOwn.never ?fi ?fg ?fb; (case fi => walk_at "pi"); (case fg => walk_at "pg"); (case fb => walk_at "pss")))
local macro_rules | `(tactic| walk_at "pss") => `(tactic| first
  | exact pss_nil
  | (refine' pss_one ?s1; (case s1 => walk_at "ps"))
  | (refine' pss_cons ?s1 ?s2; (case s1 => walk_at "ps"); (case s2 => walk_at "pss")))
local macro_rules | `(tactic| walk_at "ne") => `(tactic| first | assumption | exact Ne.symm (by assumption))
local macro_rules | `(tactic| walk_at "hp") => `(tactic| first | assumption | exact upd_same | (refine (upd_ne (by walk_at "ne")).trans ?_; walk_at "hp"))
local macro_rules | `(tactic| walk_at "ar") => `(tactic| first | decide | omega | assumption)
local macro_rules | `(tactic| walk_at "r") => `(tactic| first
  | refine ⟨_, rfl, ?_⟩
  | refine ⟨_, _, _, _, rfl, rfl, SqL.of (by walk_at "hp"), by rfl, ?_⟩
  | refine ⟨_, _, _, _, rfl, rfl, SqL.of (by walk_at "hp"), by assumption, ?_⟩
  | refine ⟨_, _, _, _, rfl, rfl, by walk_at "hp", by rfl, ?_⟩
  | refine ⟨_, _, rfl, rfl, (show _ < (_ : Int) by walk_at "ar"), ?_⟩
  | refine ⟨_, _, rfl, rfl, .inr ⟨by walk_at "ar", by walk_at "ar"⟩, ?_⟩
  | refine ⟨_, _, rfl, rfl, .inl ⟨by walk_at "ar", by walk_at "ar"⟩, ?_⟩
  | refine ⟨_, _, rfl, rfl, ⟨by walk_at "ar", by walk_at "ar"⟩, ?_⟩
  | refine ⟨_, _, rfl, rfl, ⟨by walk_at "ar", by walk_at "ar", by walk_at "ar"⟩, ?_⟩
  | refine ⟨_, _, rfl, .inl (SqL.of (by walk_at "hp")), ?_⟩
  | refine ⟨_, _, rfl, .inr (SqT.of (by walk_at "hp")), ?_⟩
  | refine ⟨_, _, rfl, rfl, ?_⟩
  | refine .inl ⟨_, rfl, ?_⟩
  | refine ⟨rfl, ?_⟩)

def top (i : Nat) : Stmt := PySem.Challenge.pw_lowturns_k18_whole_first_differences.main.body.getD i (.Pass ⟨0, 0, 0, 0⟩)
abbrev sBag : Stmt := top 42
abbrev sPull : Stmt := top 43
abbrev sOf : Stmt := top 44
abbrev sPrime : Stmt := top 47
abbrev sFigs : Stmt := top 48
abbrev sPlain : Stmt := top 49
section
variable {P : Program} {w : World} {K : PySem.W.Frag} {mg : Str → Option Value} {base : Heap}
theorem cut63 (ns : List Int) : cutV (ns.map V.int) none (some 63) = (ns.take 63).map V.int := by
  unfold cutV
  have h1 : HT.sIx (ns.map V.int).length 0 none = 0 := rfl
  have h2 : HT.sIx (ns.map V.int).length (ns.map V.int).length (some 63) = min 63 (ns.map V.int).length := by
    first | rfl | (unfold HT.sIx; simp; done) | (unfold HT.sIx; simp; omega)
  rw [h1, h2, List.drop_zero, Nat.sub_zero, ← List.map_take, List.length_map]
  by_cases c : ns.length ≤ 63
  · rw [Nat.min_eq_right c, List.take_length, List.take_of_length_le c]
  · rw [Nat.min_eq_left (by omega)]

theorem scPull : FnScope ["_law_bag_here", "_law_many", "_law_cell", "_law_digit", "_law_twice"] ["_law_bag_here", "_law_many"] (defScope sPull) := ⟨rfl, rfl, rfl, by decide +kernel, rfl, by decide +kernel, by decide +kernel⟩

theorem nmPull : nmB ["_law_bag_here", "_law_many", "_law_cell", "_law_digit", "_law_twice"] [("_law_bag_here", 0), ("_law_many", 1), ("_law_cell", 2), ("_law_digit", 3), ("_law_twice", 4)] ["len", "int", "abs"] (defScope sPull) = true := by decide +kernel
theorem ok_pull {f : Addr} {fd : FuncData} (F : Fun K "_law_pull" "_law_pull" sPull f fd) (B : Bn mg) : FnOk P w K mg base CX0 1 f fd ["_law_bag_here", "_law_many"] spPull := by
  refine F.ok scPull (fun vs H Q E h => ?_) (fun cdv A outer s H vs Q E hr h => ?_)
  · obtain ⟨b, l, n, rfl, _⟩ := h
    rfl
  · obtain ⟨b, l, n, rfl, ⟨i, r, m, t, ns, hb, hl, i0, r0, m0, m1⟩, n0, n1, k⟩ := h
    obtain ⟨b1, b2, b3, b4, b5, b6, b7, b8, b9, b10, b11⟩ := B
    refine' ex_mk ?d ?_
    case d =>
      have nm := nm_of (CX := CX0) (P := P) (w := w) (K := K) (mg := mg) (base := base) (outer := outer) (H := H) (E := E) nmPull hr
      walk_at "pss"
    have nlb : l ≠ b := ne_of hl hb (by intro q; injection q with q; cases ns <;> simp at q)
    iterate 5 walk_at "r"
    dsimp only
    refine cut (Pv := fun σ' H' => ∃ (v2 : Option V) (i' r' m' t' : Int), σ' = [some (.ref b), some (.int n), v2, none, none] ∧ H' b = some (.lst [.ref l, .int i', .int r', .int m', .int t']) ∧ 0 ≤ i' ∧ 0 ≤ r' ∧ 0 ≤ m' ∧ m' < 2147483647 ∧ (∀ a o, a ≠ b → H a = some o → H' a = some o)) (fun σ' H' hp => ?_) (fun N rest => ?_)
    · obtain ⟨v2, i', r', m', t', rfl, hb', i0', r0', m0', m1', hs⟩ := hp
      have hl' := hs l _ nlb hl
      repeat walk_at "r"
      refine ite2 (fun c => ?_) (fun c => ?_)
      · have c' : 0 < r' := of_decide_eq_true c
        repeat walk_at "r"
        exact k _ _ ⟨fun a o ne e => by rw [upd_ne ne]; exact hs a o ne e, i', r' / n, m', t', ns, upd_same, by rw [upd_ne nlb]; exact hl', i0', Int.ediv_nonneg r0' (by omega), m0', m1'⟩ (Int.emod_nonneg _ (by omega)) (Int.emod_lt_of_pos _ n0)
      · repeat walk_at "r"
        refine k _ _ ?_ (Int.emod_nonneg _ (by omega)) (Int.emod_lt_of_pos _ n0)
        refine ⟨fun a o ne e => by rw [upd_ne ne]; exact hs a o ne e, i', r', _, t', ns, upd_same, by rw [upd_ne nlb]; exact hl', i0', r0', Int.emod_nonneg _ (by decide), Int.lt_trans (Int.emod_lt_of_pos _ (by decide)) (by decide)⟩
    · repeat walk_at "r"
      refine ite2 (fun c => ?_) (fun c => ?_)
      · repeat walk_at "r"
        refine ite2 (fun c2 => ?_) (fun c2 => ?_)
        · have c2' : i < ((ns.map V.int).length : Int) := of_decide_eq_true c2
          rw [List.length_map] at c2'
          have hk : i.toNat < ns.length := by omega
          have hat : atI (ns.map V.int) i = some (.int ns[i.toNat]) := at_of (j := i.toNat) (by omega) (by rw [List.getElem?_map, List.getElem?_eq_getElem hk]; rfl)
          repeat walk_at "r"
          refine ite2 (fun c3 => ?_) (fun c3 => ?_)
          · repeat walk_at "r"
            dsimp only
            refine rest _ _ ?_
            exact ⟨_, i + 1, _, m, t + 1, rfl, upd_same, by omega, by split <;> omega, m0, m1, fun a o ne e => by simp only [upd_ne ne]; exact e⟩
          · repeat walk_at "r"
            dsimp only
            refine rest _ _ ?_
            exact ⟨_, i + 1, r, _, t + 1, rfl, upd_same, by omega, r0, Int.emod_nonneg _ (by decide), Int.lt_trans (Int.emod_lt_of_pos _ (by decide)) (by decide), fun a o ne e => by simp only [upd_ne ne]; exact e⟩
        · first | refine iteF (rest _ _ ?_) | (dsimp only; refine iteF (rest _ _ ?_)) | refine rest _ _ ?_
          exact ⟨none, i, r, m, t + 1, rfl, upd_same, i0, r0, m0, m1, fun a o ne e => by rw [upd_ne ne]; exact e⟩
      · first | refine iteF (rest _ _ ?_) | (dsimp only; refine iteF (rest _ _ ?_)) | refine rest _ _ ?_
        exact ⟨none, i, r, m, t + 1, rfl, upd_same, i0, r0, m0, m1, fun a o ne e => by rw [upd_ne ne]; exact e⟩
end

section
variable {P : Program} {w : World} {K : PySem.W.Frag} {mg : Str → Option Value} {base : Heap}
theorem scBag : FnScope ["_law_script", "_law_mixed_here", "_law_cell"] ["_law_script"] (defScope sBag) := ⟨rfl, rfl, rfl, by decide +kernel, rfl, by decide +kernel, by decide +kernel⟩
theorem nmBag : nmB ["_law_script", "_law_mixed_here", "_law_cell"] [("_law_script", 0), ("_law_mixed_here", 1), ("_law_cell", 2)] ["int", "list"] (defScope sBag) = true := by decide +kernel
theorem ok_bag {f : Addr} {fd : FuncData} (F : Fun K "_law_bag" "_law_bag" sBag f fd) (B : Bn mg) : FnOk P w K mg base CX0 1 f fd ["_law_script"] (spBag K) := by
  refine F.ok scBag (fun vs H Q E h => ?_) (fun cdv A outer s H vs Q E hr h => ?_)
  · obtain ⟨a, ns, rfl, _⟩ := h
    rfl
  · obtain ⟨a, ns, rfl, hS, k⟩ := h
    obtain ⟨b1, b2, b3, b4, b5, b6, b7, b8, b9, b10, b11⟩ := B
    refine' ex_mk ?d ?_
    case d =>
      have nm := nm_of (CX := CX0) (P := P) (w := w) (K := K) (mg := mg) (base := base) (outer := outer) (H := H) (E := E) nmBag hr
      walk_at "pss"
    refine ⟨_, rfl, _, rfl, a, _, rfl, hS, fun q hq => ⟨q, rfl, ⟨_, SqL.of upd_same⟩, ?_⟩⟩
    rw [cut63]
    refine for_list (K := K) (a := q) (xs := (ns.take 63).map V.int) (fun i σ H' => ∃ (m : Int) (v : Option V), σ = [some (.ref a), some (.int m), v] ∧ 0 ≤ m ∧ m < 2147483647 ∧ H' = upd H q (.lst ((ns.take 63).map V.int)))
      ⟨4926, none, rfl, by decide, by decide, rfl⟩ (fun i σ H' _ ⟨_, _, _, _, _, e⟩ => by rw [e]; exact SqL.of upd_same) ?_ ?_
    · rintro i y σ H' hi ⟨m, v, rfl, m0, m1, rfl⟩
      obtain ⟨z, rfl⟩ : ∃ z, y = V.int z := by
        rw [List.getElem?_map] at hi
        cases e : (ns.take 63)[i]? with
        | none => rw [e] at hi; cases hi
        | some u => rw [e] at hi; exact ⟨u, (Option.some.inj hi).symm⟩
      repeat walk_at "r"
      exact ⟨_, _, rfl, Int.emod_nonneg _ (by decide), Int.lt_trans (Int.emod_lt_of_pos _ (by decide)) (by decide), rfl⟩
    · rintro σ H' ⟨m, v, rfl, m0, m1, rfl⟩
      refine ⟨_, rfl, _, rfl, a, _, rfl, (show Same H _ from same_new hq).seq hS, fun p hp => ?_⟩
      refine ⟨p, _, rfl, .inl (SqL.of upd_same), fun l hl => ?_⟩
      rw [cut63] at *
      refine ⟨_, rfl, (by show 5 ≤ sizeLine; decide), fun b hb => ?_⟩
      have s1 : Same H (upd (upd (upd (upd H q (.lst ((ns.take 63).map V.int))) p (.lst ((ns.take 63).map V.int))) l (.lst ((ns.take 63).map V.int))) b (.lst [.ref l, .int 0, .int 0, .int m, .int 0])) :=
        same_add (same_add (same_add (same_new hq) hp) hl) hb
      have s3 : Same H (upd (upd (upd H q (.lst ((ns.take 63).map V.int))) p (.lst ((ns.take 63).map V.int))) l (.lst ((ns.take 63).map V.int))) := same_add (same_add (same_new hq) hp) hl
      refine k _ b l s1 (s3.free hb) ⟨0, 0, m, 0, ns.take 63, upd_same, ?_, by decide, by decide, m0, m1⟩
      rw [upd_ne (ne_of_none upd_same hb), upd_same]

theorem scOf : FnScope ["_law_bag_here", "_law_some"] ["_law_bag_here", "_law_some"] (defScope sOf) := ⟨rfl, rfl, rfl, by decide +kernel, rfl, by decide +kernel, by decide +kernel⟩
theorem nmOf : nmB ["_law_bag_here", "_law_some"] [("_law_bag_here", 0), ("_law_some", 1)] ["len", "_law_pull"] (defScope sOf) = true := by decide +kernel
theorem ok_of {f : Addr} {fd : FuncData} (F : Fun K "_law_of" "_law_of" sOf f fd) (B : Bn mg) (D : Df P w K mg base 1 "_law_pull" ["_law_bag_here", "_law_many"] spPull) : FnOk P w K mg base CX0 2 f fd ["_law_bag_here", "_law_some"] spOf := by
  refine F.ok scOf (fun vs H Q E h => ?_) (fun cdv A outer s H vs Q E hr h => ?_)
  · obtain ⟨b, l, a, xs, rfl, _⟩ := h
    rfl
  · obtain ⟨b, l, a, xs, rfl, hB, hA, nab, x0, x1, k⟩ := h
    obtain ⟨b1, b2, b3, b4, b5, b6, b7, b8, b9, b10, b11⟩ := B
    refine' ex_mk ?d ?_
    case d =>
      have nm := nm_of (CX := CX0) (P := P) (w := w) (K := K) (mg := mg) (base := base) (outer := outer) (H := H) (E := E) nmOf hr
      walk_at "pss"
    refine ⟨_, rfl, _, rfl, _, rfl, _, _, rfl, .inl (SqL.of hA), b, l, _, rfl, hB, by omega, by omega, fun H' d st d0 d1 => ?_⟩
    have hd : d.toNat < xs.length := by omega
    have e : xs[d.toNat]? = some xs[d.toNat] := List.getElem?_eq_getElem hd
    refine ⟨a, xs, d, _, rfl, rfl, SqL.of (st.1 a _ nab hA), at_of (by omega) e, ?_⟩
    exact k H' d.toNat _ st e

theorem scPrime : FnScope ["_law_bag_here"] ["_law_bag_here"] (defScope sPrime) := ⟨rfl, rfl, rfl, by decide +kernel, rfl, by decide +kernel, by decide +kernel⟩
theorem nmPrime : nmB ["_law_bag_here"] [("_law_bag_here", 0)] ["_law_of"] (defScope sPrime) = true := by decide +kernel
theorem ok_prime {f : Addr} {fd : FuncData} (F : Fun K "_law_prime" "_law_prime" sPrime f fd) (D : Df P w K mg base 2 "_law_of" ["_law_bag_here", "_law_some"] spOf) : FnOk P w K mg base CX0 3 f fd ["_law_bag_here"] spPrime := by
  refine F.ok scPrime (fun vs H Q E h => ?_) (fun cdv A outer s H vs Q E hr h => ?_)
  · obtain ⟨b, l, rfl, _⟩ := h
    rfl
  · obtain ⟨b, l, rfl, hB, k⟩ := h
    refine' ex_mk ?d ?_
    case d =>
      have nm := nm_of (CX := CX0) (P := P) (w := w) (K := K) (mg := mg) (base := base) (outer := outer) (H := H) (E := E) nmPrime hr
      walk_at "pss"
    refine ⟨_, rfl, (by show 7 ≤ sizeLine; decide), fun a ha => ?_⟩
    refine ⟨b, l, a, _, rfl, hB.new ha, upd_same, hB.ne ha, by decide, by decide, fun H' d x st hx => ?_⟩
    have st' : Stp b l H H' := ⟨keep_trans (keep_new ha) st.1, st.2⟩
    match d, hx with
    | 0, hx => obtain rfl := Option.some.inj hx; exact k _ _ st' (.inl rfl)
    | 1, hx => obtain rfl := Option.some.inj hx; exact k _ _ st' (.inl rfl)
    | 2, hx => obtain rfl := Option.some.inj hx; exact k _ _ st' (.inr (.inl rfl))
    | 3, hx => obtain rfl := Option.some.inj hx; exact k _ _ st' (.inl rfl)
    | 4, hx => obtain rfl := Option.some.inj hx; exact k _ _ st' (.inr (.inl rfl))
    | 5, hx => obtain rfl := Option.some.inj hx; exact k _ _ st' (.inr (.inr (.inl rfl)))
    | 6, hx => obtain rfl := Option.some.inj hx; exact k _ _ st' (.inr (.inr (.inr rfl)))
    | n + 7, hx => exact absurd hx (by simp)
end

section
variable {P : Program} {w : World} {K : PySem.W.Frag} {mg : Str → Option Value} {base : Heap}
theorem scFigs : FnScope ["_law_bag_here", "_law_p", "_law_many", "_law_k"] ["_law_bag_here", "_law_p", "_law_many"] (defScope sFigs) := ⟨rfl, rfl, rfl, by decide +kernel, rfl, by decide +kernel, by decide +kernel⟩
theorem nmFigs : nmB ["_law_bag_here", "_law_p", "_law_many", "_law_k"] [("_law_bag_here", 0), ("_law_p", 1), ("_law_many", 2)] ["tuple", "range"] (defScope sFigs) = true := by decide +kernel
theorem ok_figs {f : Addr} {fd : FuncData} (F : Fun K "_law_figures" "_law_figures" sFigs f fd) (B : Bn mg) (D : Df P w K mg base 1 "_law_pull" ["_law_bag_here", "_law_many"] spPull) : FnOk P w K mg base CX0 2 f fd ["_law_bag_here", "_law_p", "_law_many"] spFigs := by
  refine F.ok scFigs (fun vs H Q E h => ?_) (fun cdv A outer s H vs Q E hr h => ?_)
  · obtain ⟨b, l, p, n, rfl, _⟩ := h
    rfl
  · obtain ⟨b, l, p, n, rfl, hB, p0, p1, n0, n1, k⟩ := h
    obtain ⟨b1, b2, b3, b4, b5, b6, b7, b8, b9, b10, b11⟩ := B
    refine' ex_mk ?d ?_
    case d =>
      have nm := nm_of (CX := CX0) (P := P) (w := w) (K := K) (mg := mg) (base := base) (outer := outer) (H := H) (E := E) nmFigs hr
      refine' pss_one (ps_ret (n_t (x := "tuple") nm (by walk_at "as") call_tuple_of PyProof.Rows.boot_tuple ?bg (pa_cons ?lc pa_nil)))
      case bg => walk_at "mem"
      case lc =>
        refine' n_lc (own := [("_law_k", 3)]) (g := gName 3) (NS' := [("_law_bag_here", 0), ("_law_p", 1)]) (WS' := [("_law_k", 3)]) (G' := ["_law_pull"]) (N := ["_law_bag_here", "_law_p", "_law_many", "_law_k"]) (scD := defScope sFigs) nm rfl rfl (by decide +kernel) (by decide +kernel) ?li (fun X' nm2 => ?lg) (fun X' nm2 => ?le)
        case li => walk_at "pi"
        case lg => walk_at "pg"
        case le => walk_at "pe"
    refine ⟨_, rfl, n, rfl, by omega, by omega, fun Dl hD => ?_⟩
    have nDb : Dl ≠ b := hB.ne hD
    refine lc_range (lo := 0) (n := n.toNat) (fun i H' => Stp b l H H' ∧ ∃ ds : List Int, ds.length = i ∧ H' Dl = some (.lst (ds.map V.int)) ∧ ∀ d ∈ ds, 0 ≤ d ∧ d < p) ?_ ?_ ?_
    · exact ⟨hB.stp.add hD, [], rfl, upd_same, fun d hd => absurd hd (by simp)⟩
    · rintro i H' hi ⟨st, ds, hl, hd, hp⟩
      refine ⟨rfl, yes_ ?_⟩
      refine ⟨_, rfl, _, rfl, b, l, p, rfl, st.2, p0, by omega, fun H2 d st2 d0 d1 => ?_⟩
      have e2 := st2.1 _ _ nDb hd
      refine ⟨_, e2, ?_, ?_⟩
      · rw [List.length_map]
        exact small1000 (by omega)
      · refine ⟨(st.trans st2).put hB hD, ds ++ [d], by simp [hl], ?_, fun x hx => ?_⟩
        · rw [upd_same, List.map_append]; rfl
        · rcases List.mem_append.mp hx with hx | hx
          · exact hp x hx
          · rw [List.mem_singleton.mp hx]; exact ⟨d0, d1⟩
    · rintro H' ⟨st, ds, hl, hd, hp⟩
      refine ⟨Dl, _, rfl, .inl ⟨SqL.of hd, fun t ht => ?_⟩⟩
      exact k _ t ds (st.add ht) (st.free ht) upd_same (by omega) hp
end

section
variable {P : Program} {w : World} {K : PySem.W.Frag} {mg : Str → Option Value} {base : Heap}
theorem scPlain : FnScope ["_law_bag_here", "_law_p", "_law_top", "_law_many", "_law_rows", "_law_k"] ["_law_bag_here", "_law_p", "_law_top"] (defScope sPlain) := ⟨rfl, rfl, rfl, by decide +kernel, rfl, by decide +kernel, by decide +kernel⟩
theorem nmPlain : nmB ["_law_bag_here", "_law_p", "_law_top", "_law_many", "_law_rows", "_law_k"] [("_law_bag_here", 0), ("_law_p", 1), ("_law_top", 2), ("_law_many", 3), ("_law_rows", 4), ("_law_k", 5)] ["_law_pull", "_law_of", "_law_figures", "range"] (defScope sPlain) = true := by decide +kernel
theorem ok_plain {f : Addr} {fd : FuncData} (F : Fun K "_law_plain" "_law_plain" sPlain f fd) (B : Bn mg) (D : Df P w K mg base 1 "_law_pull" ["_law_bag_here", "_law_many"] spPull) (D2 : Df P w K mg base 2 "_law_of" ["_law_bag_here", "_law_some"] spOf)
    (D3 : Df P w K mg base 2 "_law_figures" ["_law_bag_here", "_law_p", "_law_many"] spFigs) : FnOk P w K mg base CX0 3 f fd ["_law_bag_here", "_law_p", "_law_top"] spPlain := by
  refine F.ok scPlain (fun vs H Q E h => ?_) (fun cdv A outer s H vs Q E hr h => ?_)
  · obtain ⟨b, l, p, n, rfl, _⟩ := h
    rfl
  · obtain ⟨b, l, p, n, rfl, hB, hP, n0, n1, k⟩ := h
    have hp2 := hP.two
    obtain ⟨b1, b2, b3, b4, b5, b6, b7, b8, b9, b10, b11⟩ := B
    refine' ex_mk ?d ?_
    case d =>
      have nm := nm_of (CX := CX0) (P := P) (w := w) (K := K) (mg := mg) (base := base) (outer := outer) (H := H) (E := E) nmPlain hr
      walk_at "pss"
    refine ⟨_, rfl, _, rfl, b, l, n, rfl, hB, n0, by omega, fun H1 d st1 d0 d1 => ?_⟩
    refine ⟨_, _, rfl, rfl, Nat.zero_le _, fun r hr1 => ?_⟩
    have hr0 : H r = none := st1.free hr1
    have em : ((1 + d).toNat : Int) = 1 + d := by omega
    refine ⟨_, rfl, _, rfl, by omega, by omega, for_range (lo := 0) (n := (1 + d).toNat) (fun i σ H' => ∃ (v : Option V) (xs : List V) (M : List (Int × List Int)), σ = [some (.ref b), some (.int p), some (.int n), some (.int (1 + d)), some (.ref r), v] ∧ Stp b l H H' ∧ H' r = some (.lst xs) ∧ StsAt H' xs M ∧ OkM p (1 + d) M ∧ M.length = i)
      ⟨none, [], [], rfl, st1.add hr1, upd_same, ⟨rfl, fun i x s h => by simp at h⟩, ⟨fun s h => by simp at h, fun s h => by simp at h, fun s h => by simp at h⟩, rfl⟩ ?_ ?_⟩
    · rintro i σ H' hi ⟨v, xs, M, rfl, st, hr', hM, hO, hl⟩
      have nrb : r ≠ b := hB.ne hr0
      refine ⟨_, rfl, .inl ⟨rfl, _, SqL.of hr'⟩, ?_⟩
      refine ⟨_, rfl, _, rfl, _, _, rfl, rfl, _, rfl, _, rfl, b, l, p, rfl, st.2, by omega, by omega, fun H2 e st2 e0 e1 => ?_⟩
      refine ⟨by show 5 ≤ sizeLine; decide, fun a ha => ?_⟩
      refine ⟨b, l, a, _, rfl, st2.2.new ha, upd_same, st2.2.ne ha, by show 0 < 5; decide, by show 5 ≤ 1000; decide, fun H3 j x st3 hx => ?_⟩
      obtain ⟨tn, rfl, t0, t1⟩ : ∃ tn : Int, x = .int tn ∧ 0 ≤ tn ∧ tn < p := by
        match j, hx with
        | 0, hx => obtain rfl := Option.some.inj hx; exact ⟨_, rfl, by omega, by omega⟩
        | 1, hx => obtain rfl := Option.some.inj hx; exact ⟨_, rfl, by omega, by omega⟩
        | 2, hx => obtain rfl := Option.some.inj hx; exact ⟨_, rfl, by omega, by omega⟩
        | 3, hx => obtain rfl := Option.some.inj hx; exact ⟨_, rfl, by omega, by omega⟩
        | 4, hx => obtain rfl := Option.some.inj hx; exact ⟨_, rfl, e0, e1⟩
        | n + 5, hx => exact absurd hx (by simp)
      have s23 : Stp b l H2 H3 := ⟨keep_trans (keep_new ha) st3.1, st3.2⟩
      refine ⟨_, rfl, _, rfl, _, rfl, b, l, 1 + d, p, rfl, st3.2, by omega, by omega, by omega, by omega, fun H4 t ds st4 ht4 ht hdl hds => ?_⟩
      refine ⟨by show 2 ≤ sizeLine; decide, fun q hq => ?_⟩
      have sx : Stp b l H' H4 := (st2.trans s23).trans st4
      have hr4 : H4 r = some (.lst xs) := sx.1 r _ nrb hr'
      have hr5 : upd H4 q (.tup [.int tn, .ref t]) r = some (.lst xs) := by rw [upd_ne (ne_of_none hr4 hq)]; exact hr4
      refine ⟨r, _, _, rfl, rfl, hr5, ?_, ?_⟩
      · rw [hM.1, hl]
        exact small1000 (by omega)
      · have hM4 : StsAt (upd H4 q (.tup [.int tn, .ref t])) xs M := (hM.keep st.2 sx.1).same (same_new hq)
        have hS4 : StAt (upd H4 q (.tup [.int tn, .ref t])) (.ref q) (tn, ds) := ⟨q, t, rfl, upd_same, by rw [upd_ne (ne_of_none ht hq)]; exact ht⟩
        refine ⟨_, xs ++ [.ref q], M ++ [(tn, ds)], rfl, ((st.trans sx).add hq).put hB hr0, upd_same, (hM4.snoc hS4).lst hr5, ⟨fun s h => ?_, fun s h => ?_, fun s h => ?_⟩, by simp [hl]⟩
        · rcases List.mem_append.mp h with h | h
          · exact hO.turn s h
          · rw [List.mem_singleton.mp h]; exact ⟨t0, t1⟩
        · rcases List.mem_append.mp h with h | h
          · exact hO.many s h
          · rw [List.mem_singleton.mp h]; exact hdl
        · rcases List.mem_append.mp h with h | h
          · exact hO.goal s h
          · rw [List.mem_singleton.mp h]; exact hds
    · rintro σ H' ⟨v, xs, M, rfl, st, hr', hM, hO, hl⟩
      have nrb : r ≠ b := hB.ne hr0
      refine ⟨_, rfl, _, rfl, _, rfl, _, rfl, b, l, 1 + d, rfl, st.2, by omega, by omega, fun H2 e st2 e0 e1 => ?_⟩
      refine ⟨by show 3 ≤ sizeLine; decide, fun t ht => ?_⟩
      have hr2 := st2.1 r _ nrb hr'
      have eL : (M.length : Int) = 1 + d := by omega
      refine k _ t r xs M e ((st.trans st2).add ht) ((st.trans st2).free ht) hr0 upd_same (by rw [upd_ne (ne_of_none hr2 ht)]; exact hr2) ((hM.keep st.2 st2.1).same (same_new ht)) (by rw [eL]; exact hO) (by omega) (by omega) e0 (by omega)
end

abbrev sNum : Stmt := top 18
abbrev sBel : Stmt := top 19
abbrev sChP : Stmt := top 20
/-- the kind of a value -/
def Kd (K : PySem.W.Frag) (H : Hp) (v : V) (T : String) : Prop := TyX K H v (.type T) ∧ (T = "NoneType" ∨ T = "bool" ∨ T = "int" ∨ T = "str" ∨ T = "list" ∨ T = "tuple")
theorem kd_int {K : PySem.W.Frag} {H : Hp} (i : Int) : Kd K H (.int i) "int" := ⟨.base (.int i), .inr (.inr (.inl rfl))⟩
def spNum (K : PySem.W.Frag) : Sp := fun vs H Q _ => ∃ v T, vs = [v] ∧ Kd K H v T ∧ Q (.bl (decide (T = "int"))) H
def belowV (v : V) (n : Int) : Bool := match v with
  | .int i => decide (0 ≤ i) && decide (i < n)
  | _ => false
def spBel (K : PySem.W.Frag) : Sp := fun vs H Q _ => ∃ v T n, vs = [v, .int n] ∧ Kd K H v T ∧ Q (.bl (belowV v n)) H
theorem Kd.ofInt {K : PySem.W.Frag} {H : Hp} {v : V} (h : Kd K H v "int") : ∃ i, v = .int i := by
  obtain ⟨h, _⟩ := h
  generalize e : Value.type "int" = t at h
  cases h with
  | base b => cases b with
    | int i => exact ⟨i, rfl⟩
    | non => injection e with e; exact absurd e (by decide)
    | bl x => injection e with e; exact absurd e (by decide)
    | str x => injection e with e; exact absurd e (by decide)
    | flt x => injection e with e; exact absurd e (by decide)
    | lst h => injection e with e; exact absurd e (by decide)
    | frz h => injection e with e; exact absurd e (by decide)
    | tup h => injection e with e; exact absurd e (by decide)
    | dK h => injection e with e; exact absurd e (by decide)
    | dT h => injection e with e; exact absurd e (by decide)
    | ins h => cases e
  | byt b => injection e with e; exact absurd e (by decide)
  | set h => injection e with e; exact absurd e (by decide)
  | kList h c => injection e with e; exact absurd e (by decide)
  | kTuple h c => injection e with e; exact absurd e (by decide)
  | kDict h c => injection e with e; exact absurd e (by decide)
  | fTuple h => injection e with e; exact absurd e (by decide)
  | fDict h => injection e with e; exact absurd e (by decide)
theorem Kd.notInt {K : PySem.W.Frag} {H : Hp} {v : V} {T : String} (h : Kd K H v T) (n : T ≠ "int") : ∀ i, v ≠ .int i := by
  rintro i rfl
  obtain ⟨h, _⟩ := h
  generalize e : Value.type T = t at h
  cases h with
  | base b => cases b with
    | int i => injection e with e; exact n e
section
variable {P : Program} {w : World} {K : PySem.W.Frag} {mg : Str → Option Value} {base : Heap}
theorem scNum : FnScope ["value"] ["value"] (defScope sNum) := ⟨rfl, rfl, rfl, by decide +kernel, rfl, by decide +kernel, by decide +kernel⟩
theorem nmNum : nmB ["value"] [("value", 0)] ["isinstance", "int", "bool"] (defScope sNum) = true := by decide +kernel
theorem kit_int {T : String} (h : T = "NoneType" ∨ T = "bool" ∨ T = "int" ∨ T = "str" ∨ T = "list" ∨ T = "tuple") : kitB T "int" = some (decide (T = "int" ∨ T = "bool")) := by
  rcases h with h | h | h | h | h | h <;> subst h <;> decide +kernel
theorem kit_bool {T : String} (h : T = "NoneType" ∨ T = "bool" ∨ T = "int" ∨ T = "str" ∨ T = "list" ∨ T = "tuple") : kitB T "bool" = some (decide (T = "bool")) := by
  rcases h with h | h | h | h | h | h <;> subst h <;> decide +kernel
theorem ok_num {f : Addr} {fd : FuncData} (F : Fun K "is_number" "is_number" sNum f fd) (B : Bn mg) : FnOk P w K mg base CX0 1 f fd ["value"] (spNum K) := by
  refine F.ok scNum (fun vs H Q E h => ?_) (fun cdv A outer s H vs Q E hr h => ?_)
  · obtain ⟨v, T, rfl, _⟩ := h
    rfl
  · obtain ⟨v, T, rfl, hk, k⟩ := h
    obtain ⟨b1, b2, b3, b4, b5, b6, b7, b8, b9, b10, b11⟩ := B
    refine' ex_mk ?d ?_
    case d =>
      have nm := nm_of (CX := CX0) (P := P) (w := w) (K := K) (mg := mg) (base := base) (outer := outer) (H := H) (E := E) nmNum hr
      walk_at "pss"
    refine ⟨_, rfl, _, _, _, _, _, rfl, .ty "int", hk.1, kit_ty (kit_int hk.2), _, rfl, ?_⟩
    by_cases c : T = "int" ∨ T = "bool"
    · rw [decide_eq_true c]
      refine iteT ?_
      refine ⟨_, rfl, _, _, _, _, _, rfl, .ty "bool", hk.1, kit_ty (kit_bool hk.2), _, rfl, ?_⟩
      have e : (!decide (T = "bool")) = decide (T = "int") := by
        rcases c with c | c <;> subst c <;> decide
      rw [e]
      exact k
    · rw [decide_eq_false c]
      refine iteF ?_
      have e : decide (T = "int") = false := decide_eq_false fun z => c (.inl z)
      rw [e] at k
      exact k
theorem scBel : FnScope ["value", "bound"] ["value", "bound"] (defScope sBel) := ⟨rfl, rfl, rfl, by decide +kernel, rfl, by decide +kernel, by decide +kernel⟩
theorem nmBel : nmB ["value", "bound"] [("value", 0), ("bound", 1)] ["is_number"] (defScope sBel) = true := by decide +kernel
theorem ok_bel {f : Addr} {fd : FuncData} (F : Fun K "is_below" "is_below" sBel f fd) (D : Df P w K mg base 1 "is_number" ["value"] (spNum K)) : FnOk P w K mg base CX0 2 f fd ["value", "bound"] (spBel K) := by
  refine F.ok scBel (fun vs H Q E h => ?_) (fun cdv A outer s H vs Q E hr h => ?_)
  · obtain ⟨v, T, n, rfl, _⟩ := h
    rfl
  · obtain ⟨v, T, n, rfl, hk, k⟩ := h
    refine' ex_mk ?d ?_
    case d =>
      have nm := nm_of (CX := CX0) (P := P) (w := w) (K := K) (mg := mg) (base := base) (outer := outer) (H := H) (E := E) nmBel hr
      walk_at "pss"
    refine ⟨_, rfl, v, T, rfl, hk, _, rfl, ?_⟩
    by_cases c : T = "int"
    · subst c
      obtain ⟨i, rfl⟩ := hk.ofInt
      rw [decide_eq_true rfl]
      refine iteT ?_
      refine ⟨_, rfl, _, _, rfl, rfl, _, rfl, ?_⟩
      have k' : Q (.bl (decide (0 ≤ i) && decide (i < n))) H := k
      by_cases c1 : (0 : Int) ≤ i
      · rw [decide_eq_true c1, Bool.true_and] at k'
        rw [decide_eq_true c1]
        refine iteT ?_
        exact ⟨_, rfl, _, _, rfl, rfl, k'⟩
      · rw [decide_eq_false c1, Bool.false_and] at k'
        rw [decide_eq_false c1]
        exact iteF k'
    · rw [decide_eq_false c]
      refine iteF ?_
      have e : belowV v n = false := by
        cases v with
        | int i => exact absurd rfl (hk.notInt c i)
        | _ => rfl
      rw [e] at k
      exact k
end

abbrev sCp : Stmt := top 2
/-- copied: the same data, its lists and tuples made anew -/
def spCp (K : PySem.W.Frag) (n : Nat) : Sp := fun vs H Q _ => ∃ (v : V) (d : PyData) (c : Nat), vs = [v] ∧ Dp K H v d ∧ GoodD n d c ∧ ∀ H' v', Same H H' → Dp K (newOf H H') v' d → Q v' H'
theorem butD_sub {D : Addr} {H : Hp} : Same (butD D H) H := fun a o z => by
  unfold butD at z
  split at z
  · cases z
  · exact z
section
variable {P : Program} {w : World} {K : PySem.W.Frag} {mg : Str → Option Value} {base : Heap}
theorem scCp : FnScope ["value", "item"] ["value"] (defScope sCp) := ⟨rfl, rfl, rfl, by decide +kernel, rfl, by decide +kernel, by decide +kernel⟩
theorem nmCp : nmB ["value", "item"] [("value", 0)] ["isinstance", "list", "tuple"] (defScope sCp) = true := by decide +kernel
theorem kit_lt {T : String} (h : T = "NoneType" ∨ T = "bool" ∨ T = "int" ∨ T = "str") : kitB T "list" = some false ∧ kitB T "tuple" = some false := by
  rcases h with h | h | h | h <;> subst h <;> exact ⟨by decide +kernel, by decide +kernel⟩
theorem ok_cp {n : Nat} {f : Addr} {fd : FuncData} (F : Fun K "copied" "copied" sCp f fd) (B : Bn mg) (D : ∀ m, n = m + 1 → Df P w K mg base n "copied" ["value"] (spCp K m)) : FnOk P w K mg base CX0 (n + 1) f fd ["value"] (spCp K n) := by
  refine F.ok scCp (fun vs H Q E h => ?_) (fun cdv A outer s H vs Q E hr h => ?_)
  · obtain ⟨v, d, c, rfl, _⟩ := h
    rfl
  · obtain ⟨v, d, c, rfl, hd, hg, k⟩ := h
    obtain ⟨b1, b2, b3, b4, b5, b6, b7, b8, b9, b10, b11⟩ := B
    by_cases hf : flatV v = true
    · refine' ex_mk ?d ?_
      case d =>
        have nm := nm_of (CX := CX0) (P := P) (w := w) (K := K) (mg := mg) (base := base) (outer := outer) (H := H) (E := E) nmCp hr
        refine' pss_cons (ps_if ?c1 (pss_one ps_never) pss_nil) (pss_cons (ps_if ?c2 (pss_one ps_never) pss_nil) (pss_one ?ret))
        case c1 => walk_at "pt"
        case c2 => walk_at "pt"
        case ret => walk_at "ps"
      obtain ⟨T, ty, hT⟩ := ty_flat (K := K) (H := H) hf
      obtain ⟨k1, k2⟩ := kit_lt hT
      refine ⟨_, rfl, _, _, _, _, _, rfl, .ty "list", ty, kit_ty k1, _, rfl, ?_⟩
      refine iteF ?_
      refine ⟨_, rfl, _, _, _, _, _, rfl, .ty "tuple", ty, kit_ty k2, _, rfl, ?_⟩
      refine iteF ?_
      exact ⟨_, rfl, k H v (fun _ _ e => e) (goodD_flat (n := n) (c := c) hd hf _)⟩
    · have step : ∀ {xs : List V} {ds : List PyData} {cs : List Nat} {m : Nat} {H2 : Hp} {Dl j : Nat} {x : V} {Qk : V → Hp → Prop}, xs.length = ds.length → cs.length = ds.length → DpAll K H xs ds → (∀ (i : Nat) d k, ds[i]? = some d → cs[i]? = some k → GoodD m d k) → H Dl = none → Same H H2 → (∃ ys, H2 Dl = some (.lst ys)) → xs[j]? = some x →
          (∀ y H3, Same H2 H3 → (∀ d, ds[j]? = some d → Dp K (butD Dl (newOf H H3)) y d) → Qk y H3) → spCp K m [x] H2 Qk (fun _ _ _ => False) := by
        intro xs ds cs m H2 Dl j x Qk e1 e2 ha hall hD s2 hDl hx kk
        obtain ⟨_, f2⟩ := dpAll_at ha
        have hj := (List.getElem?_eq_some_iff.mp hx).1
        have hdj : ds[j]? = some ds[j] := List.getElem?_eq_getElem (by omega)
        have hcj : cs[j]? = some cs[j] := List.getElem?_eq_getElem (by omega)
        refine ⟨x, _, _, rfl, dp_same s2 _ _ (f2 j x _ hx hdj), hall j _ _ hdj hcj, fun H3 v' s3 hv => ?_⟩
        refine kk v' H3 s3 fun d hd => ?_
        rw [hdj] at hd
        obtain rfl := Option.some.inj hd
        refine dp_same (fun a o e => ?_) _ _ hv
        have n2 := newOf_old e
        have nD : a ≠ Dl := fun z => by
          obtain ⟨ys, hy⟩ := hDl
          rw [z, hy] at n2
          cases n2
        have nH : H a = none := by
          cases q : H a with
          | none => rfl
          | some u => rw [s2 _ _ q] at n2; cases n2
        show butD Dl (newOf H H3) a = some o
        unfold butD
        rw [if_neg nD]
        exact newOf_at nH (newOf_same _ _ e)
      cases hd with
      | non => exact absurd rfl hf
      | bl b => exact absurd rfl hf
      | int i => exact absurd rfl hf
      | str x => exact absurd rfl hf
      | @lst a xs ds hs ha =>
        cases n with
        | zero => exact hg.elim
        | succ m =>
          obtain ⟨hlen, cs, el, hcs, hall⟩ := hg
          obtain ⟨e2, f2⟩ := dpAll_at ha
          have D1 := D m rfl
          refine' ex_mk ?d ?_
          case d =>
            have nm := nm_of (CX := CX0) (P := P) (w := w) (K := K) (mg := mg) (base := base) (outer := outer) (H := H) (E := E) nmCp hr
            refine' pss_cons (ps_if ?c1 (pss_one (ps_ret ?lc)) pss_nil) (pss_cons (ps_if ?c2 (pss_one ps_never) pss_nil) (pss_one ?ret))
            case c1 => walk_at "pt"
            case c2 => walk_at "pt"
            case ret => walk_at "ps"
            case lc =>
              refine' n_lc (own := [("item", 1)]) (g := gName 1) (NS' := [("item", 1)]) (WS' := [("item", 1)]) (G' := ["copied"]) (N := ["value", "item"]) (scD := defScope sCp) nm rfl rfl (by decide +kernel) (by decide +kernel) (pi_list ?li) (fun X' nm2 => ?lg) (fun X' nm2 => ?le)
              case li => walk_at "pe"
              case lg => walk_at "pg"
              case le =>
                refine' n_d nm2 D1 (Nat.le_refl _) ?ug ?ua
                case ug => walk_at "mem"
                case ua => walk_at "pa"
          refine ⟨_, rfl, _, _, _, _, _, rfl, .ty "list", ty_l hs, kit_ty (by decide +kernel : kitB "list" "list" = some true), _, rfl, ?_⟩
          refine iteT ?_
          refine ⟨_, rfl, a, rfl, ⟨_, hs⟩, fun Dl hD => ?_⟩
          have J := sj_L (K := K) (a := a) (xs := xs) (S := Same H) fun H5 s5 => sqL_same s5 hs
          refine lcB (K := K) (xs := xs) (R := fun i y H' => ∀ d, ds[i]? = some d → Dp K (butD Dl (newOf H H')) y d) hD (small1000 (by omega))
            (fun H2 j s2 hj => J.go H2 j _ s2 (List.getElem?_eq_getElem hj)) (fun H2 s2 => J.stop H2 s2) (fun i y H2 H3 e h d hd => dp_same (fun a o z => ?_) _ _ (h d hd)) (fun i y H2 zs h d hd => ?_) ?_ ?_ gm_nm
          · unfold butD newOf at z ⊢
            split at z
            · cases z
            · rename_i q
              rw [if_neg q]
              split at z
              · cases z
              · rename_i q2
                rw [if_neg q2]
                exact e _ _ z
          · have e0 : butD Dl (newOf H (upd H2 Dl (.lst zs))) = butD Dl (newOf H H2) := by
              funext b
              unfold butD newOf
              by_cases hb : b = Dl
              · rw [if_pos hb, if_pos hb]
              · rw [if_neg hb, if_neg hb, upd_ne hb]
            rw [e0]
            exact h d hd
          · intro j x H2 v H3 Qk hx s2 hDl hy kk
            obtain ⟨rfl, hv⟩ := J.yl H2 j v H3 s2 hy
            exact ⟨rfl, _, rfl, step e2 el ha hall hD s2 hDl hv kk⟩
          · intro ys H2 s2 hDl hl hRs
            refine k H2 (.ref Dl) s2 (.lst (SqL.of (newOf_at hD hDl)) (dpAll_of (by omega) fun i y d h1 h2 => ?_))
            exact dp_same butD_sub _ _ (hRs i y h1 d h2)
      | @tup a xs ds hs ha =>
        cases n with
        | zero => exact hg.elim
        | succ m =>
          obtain ⟨hlen, cs, el, hcs, hall⟩ := hg
          obtain ⟨e2, f2⟩ := dpAll_at ha
          have D1 := D m rfl
          refine' ex_mk ?d ?_
          case d =>
            have nm := nm_of (CX := CX0) (P := P) (w := w) (K := K) (mg := mg) (base := base) (outer := outer) (H := H) (E := E) nmCp hr
            refine' pss_cons (ps_if ?c1 (pss_one ps_never) pss_nil) (pss_cons (ps_if ?c2 (pss_one (ps_ret (n_t (x := "tuple") nm (by walk_at "as") call_tuple_of PyProof.Rows.boot_tuple ?bg (pa_cons ?lc pa_nil)))) pss_nil) (pss_one ?ret))
            case c1 => walk_at "pt"
            case c2 => walk_at "pt"
            case bg => walk_at "mem"
            case ret => walk_at "ps"
            case lc =>
              refine' n_lc (own := [("item", 1)]) (g := gName 1) (NS' := [("item", 1)]) (WS' := [("item", 1)]) (G' := ["copied"]) (N := ["value", "item"]) (scD := defScope sCp) nm rfl rfl (by decide +kernel) (by decide +kernel) (pi_tup ?li) (fun X' nm2 => ?lg) (fun X' nm2 => ?le)
              case li => walk_at "pe"
              case lg => walk_at "pg"
              case le =>
                refine' n_d nm2 D1 (Nat.le_refl _) ?ug ?ua
                case ug => walk_at "mem"
                case ua => walk_at "pa"
          refine ⟨_, rfl, _, _, _, _, _, rfl, .ty "list", ty_t hs, kit_ty (by decide +kernel : kitB "tuple" "list" = some false), _, rfl, ?_⟩
          refine iteF ?_
          refine ⟨_, rfl, _, _, _, _, _, rfl, .ty "tuple", ty_t hs, kit_ty (by decide +kernel : kitB "tuple" "tuple" = some true), _, rfl, ?_⟩
          refine iteT ?_
          refine ⟨_, rfl, a, rfl, ⟨_, hs⟩, fun Dl hD => ?_⟩
          have J := sj_T (K := K) (a := a) (xs := xs) (S := Same H) fun H5 s5 => sqT_same s5 hs
          refine lcB (K := K) (xs := xs) (R := fun i y H' => ∀ d, ds[i]? = some d → Dp K (butD Dl (newOf H H')) y d) hD (small1000 (by omega))
            (fun H2 j s2 hj => J.go H2 j _ s2 (List.getElem?_eq_getElem hj)) (fun H2 s2 => J.stop H2 s2) (fun i y H2 H3 e h d hd => dp_same (fun a o z => ?_) _ _ (h d hd)) (fun i y H2 zs h d hd => ?_) ?_ ?_ gm_nm
          · unfold butD newOf at z ⊢
            split at z
            · cases z
            · rename_i q
              rw [if_neg q]
              split at z
              · cases z
              · rename_i q2
                rw [if_neg q2]
                exact e _ _ z
          · have e0 : butD Dl (newOf H (upd H2 Dl (.lst zs))) = butD Dl (newOf H H2) := by
              funext b
              unfold butD newOf
              by_cases hb : b = Dl
              · rw [if_pos hb, if_pos hb]
              · rw [if_neg hb, if_neg hb, upd_ne hb]
            rw [e0]
            exact h d hd
          · intro j x H2 v H3 Qk hx s2 hDl hy kk
            obtain ⟨rfl, hv⟩ := J.yl H2 j v H3 s2 hy
            exact ⟨rfl, _, rfl, step e2 el ha hall hD s2 hDl hv kk⟩
          · intro ys H2 s2 hDl hl hRs
            refine ⟨Dl, _, rfl, .inl ⟨SqL.of hDl, fun q hq => ?_⟩⟩
            have nq : H q = none := s2.free hq
            refine k _ (.ref q) (Same.trans s2 (same_new hq)) (.tup (SqT.of (newOf_at nq upd_same)) (dpAll_of (by omega) fun i y d h1 h2 => ?_))
            refine dp_same (fun a o z => ?_) _ _ (hRs i y h1 d h2)
            unfold butD newOf at z
            unfold newOf
            split at z
            · cases z
            · split at z
              · cases z
              · rename_i q2
                rw [if_neg q2, upd_ne (ne_of_none z hq)]
                exact z
theorem copied_all {f : Addr} {fd : FuncData} (F : Fun K "copied" "copied" sCp f fd) (B : Bn mg) (hm : mg "copied" = some (.ref f)) (hk : PySem.W.keepIn K (.ref f) = true) (hb : Binds K fd ["value"] []) : ∀ n, FnOk P w K mg base CX0 (n + 1) f fd ["value"] (spCp K n)
  | 0 => ok_cp F B fun m h => by cases h
  | n + 1 => ok_cp F B fun m h => by
    obtain rfl : n = m := Nat.succ.inj h
    exact ⟨⟨f, fd, hm, hk, hb, copied_all F B hm hk hb n⟩⟩
end

/-- one argument, told as data -/
def vs1 (K : PySem.W.Frag) : List V → Hp → List PyData → Prop := fun ws H ds => ∃ (v : V) (d : PyData) (c : Nat), ws = [v] ∧ ds = [d] ∧ Dp K H v d ∧ GoodD 8 d c ∧ c ≤ 1000000
/-- no argument -/
def vs0 : List V → Hp → List PyData → Prop := fun ws _ ds => ws = [] ∧ ds = []
abbrev sE_PrimesDiffer : Stmt := inClass (top 12) 0
section
variable {P : Program} {w : World} {K : PySem.W.Frag} {mg : Str → Option Value} {base : Heap}
theorem scE_PrimesDiffer : NdefX.NScope ["self", "__class__"] ["self"] ["__class__"] (defScope sE_PrimesDiffer) := NdefX.nscope_by (by decide +kernel)
theorem nmE_PrimesDiffer : nmB ["self", "__class__"] [("self", 0)] [] (defScope sE_PrimesDiffer) = true := by decide +kernel
theorem okE_PrimesDiffer {f C cc cda : Addr} {fd : FuncData} (FC : FunC P K mg "__init__" "PrimesDiffer.__init__" sE_PrimesDiffer f C cc cda fd "ValueError.__init__") (T : OexC K C) (N : ErrN K C "PrimesDiffer") (n2 : NoAttr K C "code") (n3 : NoAttr K C "details") :
    FnOk P w K mg base CX0 10 f fd ["self"] (spErr K C "PrimesDiffer" vs0) := by
  refine funC_ok (k := 9) FC T scE_PrimesDiffer rfl (fun vs H Q E h => ?_) rfl fun A outer s H vs Q E hr h => ?_
  · obtain ⟨a, ws, ds, rfl, _, ⟨rfl, _⟩, _⟩ := h
    rfl
  · obtain ⟨a, ws, ds, rfl, ha, ⟨rfl, rfl⟩, k⟩ := h
    have nm := nm_ncx (CX := CX0) (P := P) (w := w) (K := K) (mg := mg) (base := base) (N := ["self", "__class__"]) (F := nfOf "__init__" "PrimesDiffer.__init__" sE_PrimesDiffer cc cda) (f := f) (A := A) (outer := outer) (s := s) (H := H) (E := E) nmE_PrimesDiffer scE_PrimesDiffer.nocell hr
    refine' ⟨a, _, _, _, rfl, ha, ⟨rfl, rfl, rfl, rfl, rfl⟩, pa_cons pe_str pa_nil, ?ps, ?go⟩
    case ps =>
      refine' pss_cons (ps_ost ?e2 (pe_errN0 ?e3)) (pss_one (ps_ost ?e4 (pe_tup pa_nil)))
      case e2 => walk_at "pe"
      case e3 => walk_at "pe"
      case e4 => walk_at "pe"
    case go =>
      intro Pc hPc
      refine ⟨by show 1 ≤ 1000; decide, ha, hPc _ ?_⟩
      refine ⟨_, rfl, a, C, "PrimesDiffer", rfl, ha, N, ?_⟩
      refine ⟨_, rfl, a, C, rfl, T, n2, .inl ⟨ha, fun dx hdx ndx => ?_⟩⟩
      generalize hH3 : upd (upd H dx (exd dx [("code", .str "PrimesDiffer")])) a (exo a C (some dx)) = H3
      have a3 : H3 a = some (exo a C (some dx)) := by rw [← hH3, upd_same]
      have d3 : H3 dx = some (exd dx [("code", .str "PrimesDiffer")]) := by rw [← hH3, upd_ne ndx, upd_same]
      have k3 : ∀ b o, b ≠ a → H b = some o → H3 b = some o := fun b o n z => by
        rw [← hH3, upd_ne n, upd_ne (ne_of_none z hdx)]
        exact z
      refine ⟨Nat.zero_le _, fun p hp => ?_⟩
      have np : ∀ {b : Addr} {o : HO}, H3 b = some o → b ≠ p := fun {b o} z => ne_of_none z hp
      have a5 : (upd H3 p (.tup [])) a = some (exo a C (some dx)) := by rw [upd_ne (np a3)]; exact a3
      have d5 : (upd H3 p (.tup [])) dx = some (exd dx [("code", .str "PrimesDiffer")]) := by rw [upd_ne (np d3)]; exact d3
      refine ⟨_, rfl, a, C, rfl, T, n3, .inr ⟨dx, _, a5, d5, by show 1 ≤ 900; decide, ?_⟩⟩
      have pdx : p ≠ dx := Ne.symm (np d3)
      have pa : p ≠ a := Ne.symm (np a3)
      refine k _ dx p _ (fun b o n z => ?_) hdx ?_ upd_same rfl rfl (.tup (xs := []) (SqT.of ?_) .nil)
      · rw [upd_ne (ne_of_none z hdx), upd_ne (np (k3 b o n z))]
        exact k3 b o n z
      · rw [upd_ne (Ne.symm ndx)]
        exact a5
      · have hp0 : H p = none := by
          cases q : H p with
          | none => rfl
          | some o => rw [k3 p o pa q] at hp; cases hp
        unfold butD
        rw [if_neg pdx, if_neg pa]
        refine newOf_at hp0 ?_
        rw [upd_ne pdx, upd_same]
end

/-- the constants of the module -/
structure Gv (K : PySem.W.Frag) (mg : Str → Option Value) (aP : Addr) (tD : Tok) : Prop where
  primes : mg "PRIMES" = some (.ref aP)
  four : ∀ H, SqT K H aP [.int 2, .int 3, .int 5, .int 7]
  dials : mg "MOST_DIALS" = some (.int 200 tD)
def spChP : Sp := fun vs H Q _ => ∃ p, vs = [.int p] ∧ IsP p ∧ Q .non H
def Figs (p : Int) (ds : List Int) : Prop := ∀ d ∈ ds, 0 ≤ d ∧ d < p
section
variable {P : Program} {w : World} {K : PySem.W.Frag} {mg : Str → Option Value} {base : Heap} {aP : Addr} {tD : Tok}
theorem scChP : FnScope ["prime"] ["prime"] (defScope sChP) := ⟨rfl, rfl, rfl, by decide +kernel, rfl, by decide +kernel, by decide +kernel⟩
theorem nmChP : nmB ["prime"] [("prime", 0)] ["is_number", "PRIMES"] (defScope sChP) = true := by decide +kernel
theorem ok_chp {f : Addr} {fd : FuncData} (F : Fun K "check_prime" "check_prime" sChP f fd) (g : Gv K mg aP tD) (D : Df P w K mg base 1 "is_number" ["value"] (spNum K)) : FnOk P w K mg base CX0 2 f fd ["prime"] spChP := by
  refine F.ok scChP (fun vs H Q E h => ?_) (fun cdv A outer s H vs Q E hr h => ?_)
  · obtain ⟨p, rfl, _⟩ := h
    rfl
  · obtain ⟨p, rfl, hP, k⟩ := h
    have g1 := g.primes
    refine' ex_mk ?d ?_
    case d =>
      have nm := nm_of (CX := CX0) (P := P) (w := w) (K := K) (mg := mg) (base := base) (outer := outer) (H := H) (E := E) nmChP hr
      walk_at "pss"
    refine ⟨_, rfl, _, _, rfl, kd_int p, _, rfl, ?_⟩
    refine iteF ?_
    refine ⟨_, rfl, aP, _, rfl, .inr (g.four H), rfl, rfl, _, rfl, ?_⟩
    have e : (!inV (V.int p) [.int 2, .int 3, .int 5, .int 7]) = false := by
      rcases hP with h | h | h | h <;> subst h <;> decide
    show if (!inV (V.int p) [.int 2, .int 3, .int 5, .int 7]) = true then _ else _
    rw [e]
    exact iteF k
theorem belowV_in {p d : Int} (h : 0 ≤ d ∧ d < p) : belowV (.int d) p = true := by
  show (decide (0 ≤ d) && decide (d < p)) = true
  rw [decide_eq_true h.1, decide_eq_true h.2]; rfl
theorem all_rep (n : Nat) : (List.replicate n true).all id = true := by
  induction n with
  | zero => rfl
  | succ n ih => rw [List.replicate_succ, List.all_cons, ih]; rfl
end

/-- data that an error may tell -/
def Tell (K : PySem.W.Frag) (H : Hp) (v : V) (d : PyData) : Prop := ∃ c, Dp K H v d ∧ GoodD 8 d c ∧ c ≤ 1000000
theorem Tell.same {K : PySem.W.Frag} {H H' : Hp} {v : V} {d : PyData} (h : Tell K H v d) (e : Same H H') : Tell K H' v d := by
  obtain ⟨c, h1, h2, h3⟩ := h
  exact ⟨c, dp_same e _ _ h1, h2, h3⟩
theorem Tell.vs {K : PySem.W.Frag} {H : Hp} {v : V} {d : PyData} (h : Tell K H v d) : vs1 K [v] H [d] := by
  obtain ⟨c, h1, h2, h3⟩ := h
  exact ⟨v, d, c, rfl, rfl, h1, h2, h3⟩
abbrev sIsSt : Stmt := top 28
abbrev sFirst : Stmt := top 29
def spIsSt : Sp := fun vs H Q _ => ∃ (p n : Int) (v : V) (s : Int × List Int), vs = [.int p, v, .int n] ∧ StAt H v s ∧ 0 ≤ s.1 ∧ s.1 < p ∧ (s.2.length : Int) = p ∧ p ≤ 7 ∧ (∀ g ∈ s.2, 0 ≤ g ∧ g < n) ∧ ∀ H', Same H H' → Q (.bl true) H'
def spFirst : Sp := fun vs H Q _ => ∃ (p : Int) (a : Addr) (xs : List V) (M : List (Int × List Int)), vs = [.int p, .ref a] ∧ p ≤ 7 ∧ H a = some (.lst xs) ∧ StsAt H xs M ∧ OkM p (M.length : Int) M ∧ 0 < M.length ∧ M.length ≤ 240 ∧ ∀ H', Same H H' → Q .non H'
/-- the class as a value, its constant -/
structure Cv (K : PySem.W.Frag) (mg : Str → Option Value) (C : Addr) (mc u : Value) : Prop where
  mgC : mg "Turner" = some (.ref C)
  rd : ClX.CRead K C mc
  most : ClX.CVal K C mc "MOST" (.int 240) u
section
variable {P : Program} {w : World} {K : PySem.W.Frag} {mg : Str → Option Value} {base : Heap} {aP : Addr} {tD : Tok} {C : Addr} {mc u : Value}
theorem scIsSt : FnScope ["prime", "value", "many", "turn", "targets", "target"] ["prime", "value", "many"] (defScope sIsSt) := ⟨rfl, rfl, rfl, by decide +kernel, rfl, by decide +kernel, by decide +kernel⟩
theorem nmIsSt : nmB ["prime", "value", "many", "turn", "targets", "target"] [("prime", 0), ("value", 1), ("many", 2), ("turn", 3), ("targets", 4)] ["isinstance", "tuple", "len", "is_below", "all"] (defScope sIsSt) = true := by decide +kernel
theorem ok_isst {f : Addr} {fd : FuncData} (F : Fun K "_is_state" "_is_state" sIsSt f fd) (B : Bn mg) (D2 : Df P w K mg base 2 "is_below" ["value", "bound"] (spBel K)) : FnOk P w K mg base CX0 3 f fd ["prime", "value", "many"] spIsSt := by
  refine F.ok scIsSt (fun vs H Q E h => ?_) (fun cdv A outer s H vs Q E hr h => ?_)
  · obtain ⟨p, n, v, z, rfl, _⟩ := h
    rfl
  · obtain ⟨p, n, v, z, rfl, ⟨a, g, rfl, h1, h2⟩, t0, t1, hl, p7, hg, k⟩ := h
    obtain ⟨b1, b2, b3, b4, b5, b6, b7, b8, b9, b10, b11⟩ := B
    refine' ex_mk ?d ?_
    case d =>
      have nm := nm_of (CX := CX0) (P := P) (w := w) (K := K) (mg := mg) (base := base) (outer := outer) (H := H) (E := E) nmIsSt hr
      refine' pss_cons ?s1 (pss_cons ?s2 (pss_cons ?s3 (pss_one (ps_ret (n_b (x := "all") nm (by walk_at "as") (cr_all nm.calm) PyProof.Rows.boot_all ?bg (pa_cons ?lc pa_nil))))))
      case s1 => walk_at "ps"
      case s2 => walk_at "ps"
      case s3 => walk_at "ps"
      case bg => walk_at "mem"
      case lc =>
        refine' n_lc (own := [("target", 5)]) (g := gName 5) (NS' := [("many", 2), ("target", 5)]) (WS' := [("target", 5)]) (G' := ["is_below"]) (N := ["prime", "value", "many", "turn", "targets", "target"]) (scD := defScope sIsSt) nm rfl rfl (by decide +kernel) (by decide +kernel) (pi_tup ?li) (fun X' nm2 => ?lg) (fun X' nm2 => ?le)
        case li => walk_at "pe"
        case lg => walk_at "pg"
        case le => walk_at "pe"
    refine ⟨_, rfl, _, _, _, _, _, rfl, .ty "tuple", .base (.tup h1), kit_ty (by decide +kernel : kitB "tuple" "tuple" = some true), _, rfl, ?_⟩
    refine iteF ?_
    refine ⟨_, rfl, _, _, rfl, .inr (SqT.of h1), rfl, _, rfl, ?_⟩
    refine iteF ?_
    refine ⟨_, rfl, a, _, rfl, SqT.of h1, rfl, _, _, rfl, _, _, rfl, rfl, ?_⟩
    refine ⟨_, rfl, _, rfl, _, _, _, rfl, kd_int z.1, _, rfl, ?_⟩
    rw [belowV_in ⟨t0, t1⟩]
    refine iteF ?_
    refine ⟨_, rfl, _, _, _, _, _, rfl, .ty "tuple", .base (.tup h2), kit_ty (by decide +kernel : kitB "tuple" "tuple" = some true), _, rfl, ?_⟩
    refine iteF ?_
    refine ⟨_, rfl, _, _, rfl, .inr (SqT.of h2), _, rfl, rfl, _, rfl, ?_⟩
    have e : (!decide (V.int ((z.2.map V.int).length : Int) = V.int p)) = false := by
      rw [List.length_map, hl, decide_eq_true rfl]; rfl
    rw [e]
    refine iteF ?_
    refine ⟨_, rfl, g, rfl, ⟨_, SqT.of h2⟩, fun Dl hD => ?_⟩
    refine lcT (fs := (List.replicate z.2.length true).map V.bl) (SqT.of h2) hD (by simp) (by rw [List.length_map]; exact small1000 (by omega)) ?_ ?_ (fun x => rfl)
    · intro j x y H' Qk hx hy s1 kk
      obtain ⟨d, hd, rfl⟩ : ∃ d, d ∈ z.2 ∧ x = V.int d := by
        rw [List.getElem?_map] at hx
        cases e : z.2[j]? with
        | none => rw [e] at hx; cases hx
        | some u => rw [e] at hx; exact ⟨u, List.mem_of_getElem? e, (Option.some.inj hx).symm⟩
      have ey : y = V.bl true := by
        rw [List.getElem?_map, List.getElem?_replicate] at hy
        split at hy
        · exact (Option.some.inj hy).symm
        · cases hy
      subst ey
      refine ⟨_, rfl, _, rfl, _, _, _, rfl, kd_int d, ?_⟩
      rw [belowV_in (hg d hd)]
      exact kk _ (fun _ _ e => e)
    · intro H' s1 hDl
      refine ⟨Dl, _, rfl, SqL.of hDl, ?_⟩
      rw [all_rep]
      exact k H' s1
theorem scFirst : FnScope ["prime", "states", "at", "state"] ["prime", "states"] (defScope sFirst) := ⟨rfl, rfl, rfl, by decide +kernel, rfl, by decide +kernel, by decide +kernel⟩
theorem nmFirst : nmB ["prime", "states", "at", "state"] [("prime", 0), ("states", 1), ("at", 2), ("state", 3)] ["isinstance", "list", "tuple", "len", "enumerate", "Turner", "_is_state"] (defScope sFirst) = true := by decide +kernel
theorem ok_first {f : Addr} {fd : FuncData} (F : Fun K "_first_wrong" "_first_wrong" sFirst f fd) (B : Bn mg) (cv : Cv K mg C mc u) (D : Df P w K mg base 3 "_is_state" ["prime", "value", "many"] spIsSt) : FnOk P w K mg base CX0 4 f fd ["prime", "states"] spFirst := by
  refine F.ok scFirst (fun vs H Q E h => ?_) (fun cdv A outer s H vs Q E hr h => ?_)
  · obtain ⟨p, a, xs, M, rfl, _⟩ := h
    rfl
  · obtain ⟨p, a, xs, M, rfl, p7, ha, hM, hO, m0, m1, k⟩ := h
    obtain ⟨b1, b2, b3, b4, b5, b6, b7, b8, b9, b10, b11⟩ := B
    have g1 := cv.mgC
    refine' ex_mk ?d ?_
    case d =>
      have nm := nm_of (CX := CX0) (P := P) (w := w) (K := K) (mg := mg) (base := base) (outer := outer) (H := H) (E := E) nmFirst hr
      walk_at "pss"
    have hx : xs.length = M.length := hM.1
    refine ⟨_, rfl, by show 2 ≤ sizeLine; decide, fun q hq => ?_⟩
    have s0 : Same H (upd H q (.tup [.ty "list", .ty "tuple"])) := same_new hq
    refine ⟨_, q, _, _, _, _, rfl, upd_same, .cons (.ty "list") (.cons (.ty "tuple") .nil), .base (.lst (s0 _ _ ha)), kitAny_cons (kit_ty (by decide +kernel : kitB "list" "list" = some true)) (fun z => nomatch z) (fun _ => rfl), _, rfl, ?_⟩
    refine iteF ?_
    refine ⟨_, rfl, _, _, rfl, .inl (SqL.of (s0 _ _ ha)), rfl, _, rfl, ?_⟩
    have e : decide (V.int (xs.length : Int) = V.int 0) = false := decide_eq_false fun z => by
      injection z with z; omega
    rw [e]
    refine iteF ?_
    refine ⟨_, rfl, _, _, _, _, rfl, cv.rd, cv.most, _, rfl, a, xs, rfl, SqL.of (s0 _ _ ha), fun r hr' => ?_⟩
    rw [show cutV xs none (some 240) = xs from cut_all (n := 240) (by omega)]
    have s1 : Same H (upd (upd H q (.tup [.ty "list", .ty "tuple"])) r (.lst xs)) := same_add s0 hr'
    refine ⟨r, xs, rfl, SqL.of upd_same, ?_⟩
    refine for_enum (K := K) (a := r) (xs := xs) (fun i σ H' => ∃ v1 v2, σ = [some (.int p), some (.ref a), v1, v2] ∧ Same H H' ∧ H' r = some (.lst xs)) ⟨none, none, rfl, s1, upd_same⟩ (fun i σ H' ⟨_, _, _, _, e⟩ => SqL.of e) ?_ ?_
    · rintro i x T σ H' hxi ⟨v1, v2, rfl, s2, hr2⟩ hT
      have hi : i < M.length := by rw [← hx]; exact (List.getElem?_eq_some_iff.mp hxi).1
      have hMi : M[i]? = some M[i] := List.getElem?_eq_getElem hi
      have hmem : M[i] ∈ M := List.getElem_mem hi
      have s3 : Same H (upd H' T (.tup [.int (i : Nat), x])) := same_add s2 hT
      refine ⟨T, _, rfl, SqT.of upd_same, rfl, _, _, rfl, _, _, rfl, rfl, ?_⟩
      refine ⟨_, rfl, _, rfl, _, rfl, _, _, rfl, .inl (SqL.of (s3 _ _ ha)), ?_⟩
      refine ⟨p, _, x, M[i], rfl, (hM.2 i x _ hxi hMi).same s3, (hO.turn _ hmem).1, (hO.turn _ hmem).2, hO.many _ hmem, p7, ?_, fun H2 s4 => ⟨_, rfl, ?_⟩⟩
      · rw [hx]; exact hO.goal _ hmem
      · refine iteF ?_
        exact ⟨_, _, rfl, Same.trans s3 s4, s4 _ _ (by rw [upd_ne (ne_of_none hr2 hT)]; exact hr2)⟩
    · rintro σ H' ⟨v1, v2, rfl, s2, hr2⟩
      refine ⟨_, rfl, _, _, rfl, .inl (SqL.of (s2 _ _ ha)), _, _, _, _, rfl, cv.rd, cv.most, _, _, rfl, rfl, _, rfl, ?_⟩
      have c : ¬ (240 : Int) < (xs.length : Int) := by omega
      rw [decide_eq_false c]
      exact iteF (k H' s2)
end

abbrev sInit : Stmt := inClass (top 36) 1
theorem nPS : ¬ ("_prime" : Str) = "_states" := by decide +kernel
theorem nPT : ¬ ("_prime" : Str) = "_start" := by decide +kernel
theorem nST : ¬ ("_states" : Str) = "_start" := by decide +kernel
def tf (p : Int) (t : Addr) (st : Int) : List (Str × V) := putF "_start" (.int st) (putF "_states" (.ref t) (putF "_prime" (.int p) []))
theorem tf_p (p : Int) (t : Addr) (st : Int) : (tf p t st).lookup ("_prime" : Str) = some (.int p) := by
  unfold tf
  rw [lookup_putF, if_neg nPT, lookup_putF, if_neg nPS, lookup_putF, if_pos rfl]
theorem tf_s (p : Int) (t : Addr) (st : Int) : (tf p t st).lookup ("_states" : Str) = some (.ref t) := by
  unfold tf
  rw [lookup_putF, if_neg nST, lookup_putF, if_pos rfl]
theorem tf_t (p : Int) (t : Addr) (st : Int) : (tf p t st).lookup ("_start" : Str) = some (.int st) := by
  unfold tf
  rw [lookup_putF, if_pos rfl]
theorem tf_no (p : Int) (t : Addr) (st : Int) {m : Str} (h1 : ¬ m = "_prime") (h2 : ¬ m = "_states") (h3 : ¬ m = "_start") : (tf p t st).lookup m = none := by
  unfold tf
  rw [lookup_putF, if_neg h3, lookup_putF, if_neg h2, lookup_putF, if_neg h1]
  rfl
/-- the class's facts -/
structure Tc (K : PySem.W.Frag) (C : Addr) : Prop where
  cl : Cls K C
  nP : NoAttr K C "_prime"
  nS : NoAttr K C "_states"
  nT : NoAttr K C "_start"
/-- a turner stands at x -/
def TurAt (C : Addr) (H : Hp) (x : Addr) (p : Int) (M : Mach) (st : Int) : Prop := ∃ dx t xs, H x = some (.ins C dx (tf p t st)) ∧ H t = some (.tup xs) ∧ StsAt H xs M
structure OkT (p : Int) (M : Mach) (st : Int) : Prop where
  pr : IsP p
  ok : OkM p (M.length : Int) M
  st0 : 0 ≤ st
  st1 : st < (M.length : Int)
  le : M.length ≤ 240
theorem TurAt.same {C : Addr} {H H' : Hp} {x : Addr} {p : Int} {M : Mach} {st : Int} (h : TurAt C H x p M st) (e : Same H H') : TurAt C H' x p M st := by
  obtain ⟨dx, t, xs, h1, h2, h3⟩ := h
  exact ⟨dx, t, xs, e _ _ h1, e _ _ h2, h3.same e⟩
theorem TurAt.keep {C : Addr} {H H' : Hp} {x b l : Addr} {p : Int} {M : Mach} {st : Int} (h : TurAt C H x p M st) (B : Bag H b l) (e : Keep b H H') : TurAt C H' x p M st := by
  obtain ⟨dx, t, xs, h1, h2, h3⟩ := h
  exact ⟨dx, t, xs, e _ _ (B.insA h1) h1, e _ _ (B.tup h2) h2, h3.keep B e⟩
def spInit (C : Addr) : Sp := fun vs H Q _ => ∃ (x dx : Addr) (p : Int) (a : Addr) (xs : List V) (M : Mach) (st : Int), vs = [.ref x, .int p, .ref a, .int st] ∧ H x = some (.ins C dx []) ∧ H a = some (.lst xs) ∧ StsAt H xs M ∧ OkT p M st ∧
  ∀ H' t, (∀ c o, c ≠ x → H c = some o → H' c = some o) → H' t = some (.tup xs) → H' x = some (.ins C dx (tf p t st)) → Q .non H'
section
variable {P : Program} {w : World} {K : PySem.W.Frag} {mg : Str → Option Value} {base : Heap} {aP : Addr} {tD : Tok} {C : Addr} {mc u : Value}
theorem scInit : FnScope ["self", "prime", "states", "start", "wrong"] ["self", "prime", "states", "start"] (defScope sInit) := ⟨rfl, rfl, rfl, by decide +kernel, rfl, by decide +kernel, by decide +kernel⟩
theorem nmInit : nmB ["self", "prime", "states", "start", "wrong"] [("self", 0), ("prime", 1), ("states", 2), ("start", 3), ("wrong", 4)] ["check_prime", "_first_wrong", "is_below", "len", "tuple"] (defScope sInit) = true := by decide +kernel
theorem ok_init {f : Addr} {fd : FuncData} (F : FunD K "__init__" "Turner.__init__" (defArgs sInit) (defBody sInit) (defScope sInit) [] [("start", .int 0)] f fd) (B : Bn mg) (T : Tc K C) (D1 : Df P w K mg base 2 "check_prime" ["prime"] spChP) (D2 : Df P w K mg base 2 "is_below" ["value", "bound"] (spBel K))
    (D3 : Df P w K mg base 4 "_first_wrong" ["prime", "states"] spFirst) : FnOk P w K mg base CX0 5 f fd ["self", "prime", "states", "start"] (spInit C) := by
  refine funD_ok F scInit (fun vs H Q E h => ?_) (fun cdv A outer s H vs Q E hr h => ?_)
  · obtain ⟨x, dx, p, a, xs, M, st, rfl, _⟩ := h
    rfl
  · obtain ⟨x, dx, p, a, xs, M, st, rfl, hx, ha, hM, hO, k⟩ := h
    obtain ⟨b1, b2, b3, b4, b5, b6, b7, b8, b9, b10, b11⟩ := B
    refine' ex_mk ?d ?_
    case d =>
      have nm := nm_of (CX := CX0) (P := P) (w := w) (K := K) (mg := mg) (base := base) (outer := outer) (H := H) (E := E) nmInit hr
      walk_at "pss"
    have hl : xs.length = M.length := hM.1
    have h0 := hO.st0
    have h1 := hO.st1
    refine ⟨_, rfl, p, rfl, hO.pr, ?_⟩
    refine ⟨_, rfl, _, rfl, p, a, xs, M, rfl, hO.pr.two.2, ha, hM, hO.ok, by omega, hO.le, fun H1 s1 => ?_⟩
    refine ⟨_, rfl, rfl, _, rfl, ?_⟩
    refine iteF ?_
    refine ⟨_, rfl, _, rfl, _, _, rfl, .inl (SqL.of (s1 _ _ ha)), _, _, _, rfl, kd_int st, _, rfl, ?_⟩
    rw [belowV_in ⟨h0, by omega⟩]
    refine iteF ?_
    refine ⟨_, rfl, _, rfl, x, C, dx, [], rfl, s1 _ _ hx, T.cl, T.nP, by show 0 < 1000; decide, ?_⟩
    have nax : a ≠ x := ne_of ha hx (by intro q; cases q)
    refine ⟨_, rfl, a, xs, rfl, .inl ⟨SqL.of (by rw [upd_ne nax]; exact s1 _ _ ha), fun t ht => ?_⟩⟩
    have ntx : x ≠ t := ne_of_none upd_same ht
    refine ⟨_, rfl, x, C, dx, _, rfl, by rw [upd_ne ntx]; exact upd_same, T.cl, T.nS, by show 1 < 1000; decide, ?_⟩
    refine ⟨_, rfl, _, rfl, x, C, dx, _, rfl, upd_same, T.cl, T.nT, ?_, ?_⟩
    · refine Nat.lt_of_le_of_lt (m := 2) ?_ (by decide)
      show (putF "_states" (.ref t) [("_prime", .int p)]).length ≤ 2
      unfold putF
      rw [if_neg nPS]
      exact Nat.le_refl 2
    · refine k _ t (fun c o n e => ?_) ?_ ?_
      · rw [upd_ne n, upd_ne n, upd_ne (ne_of_none (show upd H1 x _ c = some o by rw [upd_ne n]; exact s1 _ _ e) ht), upd_ne n]
        exact s1 _ _ e
      · rw [upd_ne ntx.symm, upd_ne ntx.symm, upd_same]
      · exact upd_same
end

theorem StsAt.get {H : Hp} {xs : List V} {M : Mach} (h : StsAt H xs M) {s : Int} (s0 : 0 ≤ s) (s1 : s < (M.length : Int)) : ∃ a g, atI xs s = some (.ref a) ∧ H a = some (.tup [.int (turnM M s), .ref g]) ∧ H g = some (.tup ((M.getD s.toNat (0, [])).2.map V.int)) := by
  have hs : s.toNat < M.length := by omega
  have hx : s.toNat < xs.length := by rw [h.1]; exact hs
  have e1 : xs[s.toNat]? = some xs[s.toNat] := List.getElem?_eq_getElem hx
  have e2 : M[s.toNat]? = some M[s.toNat] := List.getElem?_eq_getElem hs
  obtain ⟨a, g, ev, h1, h2⟩ := h.2 _ _ _ e1 e2
  have eM : M.getD s.toNat (0, []) = M[s.toNat] := by rw [List.getD_eq_getElem?_getD, e2]; rfl
  refine ⟨a, g, at_of (j := s.toNat) (by omega) (by rw [e1, ev]), ?_, ?_⟩
  · unfold turnM; rw [eM]; exact h1
  · rw [eM]; exact h2
theorem at_ints {l : List Int} {d : Int} (d0 : 0 ≤ d) (d1 : d < (l.length : Int)) : atI (l.map V.int) d = some (.int (l.getD d.toNat 0)) := by
  have hd : d.toNat < l.length := by omega
  refine at_of (j := d.toNat) (by omega) ?_
  rw [List.getElem?_map, List.getD_eq_getElem?_getD, List.getElem?_eq_getElem hd]; rfl
theorem many_at {p n : Int} {M : Mach} (h : OkM p n M) {s : Int} (s0 : 0 ≤ s) (s1 : s < (M.length : Int)) : (((M.getD s.toNat (0, [])).2).length : Int) = p := by
  have hs : s.toNat < M.length := by omega
  rw [List.getD_eq_getElem?_getD, List.getElem?_eq_getElem hs]
  exact h.many _ (List.getElem_mem hs)
theorem figs_take {p : Int} {ds : List Int} (h : Figs p ds) (i : Nat) : Figs p (ds.take i) := fun d hd => h d (List.mem_of_mem_take hd)
theorem take_one {ds : List Int} {i : Nat} {d : Int} (h : ds[i]? = some d) : ds.take (i + 1) = ds.take i ++ [d] := by
  rw [List.take_add_one, h]; rfl
theorem int_of {ds : List Int} {i : Nat} {x : V} (h : (ds.map V.int)[i]? = some x) : ∃ d, ds[i]? = some d ∧ x = V.int d := by
  rw [List.getElem?_map] at h
  cases e : ds[i]? with
  | none => rw [e] at h; cases h
  | some u => rw [e] at h; exact ⟨u, rfl, (Option.some.inj h).symm⟩
section
variable {P : Program} {w : World} {K : PySem.W.Frag} {mg : Str → Option Value} {base : Heap} {aP : Addr} {tD : Tok} {C : Addr} {mc u : Value}
end

abbrev sSame : Stmt := top 46
section
variable {P : Program} {w : World} {K : PySem.W.Frag} {mg : Str → Option Value} {base : Heap}
theorem kitLT {T : String} (h : T = "NoneType" ∨ T = "bool" ∨ T = "int" ∨ T = "str") : PySem.W.kitAny K (.type T) [.type "list", .type "tuple"] = some false := by
  have e1 : kitB T "list" = some false := by rcases h with h | h | h | h <;> subst h <;> decide +kernel
  have e2 : kitB T "tuple" = some false := by rcases h with h | h | h | h <;> subst h <;> decide +kernel
  exact kitAny_cons (kit_ty e1) (fun _ => kitAny_cons (kit_ty e2) (fun _ => kitAny_nil) (fun z => nomatch z)) (fun z => nomatch z)
theorem kitL : PySem.W.kitAny K (.type "list") [.type "list", .type "tuple"] = some true := kitAny_cons (kit_ty (by decide +kernel : kitB "list" "list" = some true)) (fun z => nomatch z) (fun _ => rfl)
theorem kitT : PySem.W.kitAny K (.type "tuple") [.type "list", .type "tuple"] = some true :=
  kitAny_cons (kit_ty (by decide +kernel : kitB "tuple" "list" = some false)) (fun _ => kitAny_cons (kit_ty (by decide +kernel : kitB "tuple" "tuple" = some true)) (fun z => nomatch z) (fun _ => rfl)) (fun z => nomatch z)
theorem kit_str {T : String} (h : T = "NoneType" ∨ T = "bool" ∨ T = "int" ∨ T = "str") : kitB T "str" = some (decide (T = "str")) := by
  rcases h with h | h | h | h <;> subst h <;> decide +kernel
theorem scSame : FnScope ["_law_found", "_law_due", "_law_a", "_law_b"] ["_law_found", "_law_due"] (defScope sSame) := ⟨rfl, rfl, rfl, by decide +kernel, rfl, by decide +kernel, by decide +kernel⟩
theorem nmSame : nmB ["_law_found", "_law_due", "_law_a", "_law_b"] [("_law_found", 0), ("_law_due", 1)] ["isinstance", "list", "tuple", "bool", "int", "str", "len", "all", "zip"] (defScope sSame) = true := by decide +kernel
theorem bne_self (b : Bool) : (!decide (V.bl b = V.bl b)) = false := by rw [decide_eq_true rfl]; rfl
theorem ok_same {n : Nat} {f : Addr} {fd : FuncData} (F : Fun K "_law_same" "_law_same" sSame f fd) (B : Bn mg) (bs : mg "str" = none) (D : Df P w K mg base n "_law_same" ["_law_found", "_law_due"] (spS K n)) : FnOk P w K mg base CX0 (n + 1) f fd ["_law_found", "_law_due"] (spS K (n + 1)) := by
  refine F.ok scSame (fun vs H Q E h => ?_) (fun cdv A outer s H vs Q E hr h => ?_)
  · obtain ⟨x, y, rfl, _⟩ := h
    rfl
  · obtain ⟨x, y, rfl, he, k⟩ := h
    obtain ⟨b1, b2, b3, b4, b5, b6, b7, b8, b9, b10, b11⟩ := B
    refine' ex_mk ?d ?_
    case d =>
      have nm := nm_of (CX := CX0) (P := P) (w := w) (K := K) (mg := mg) (base := base) (outer := outer) (H := H) (E := E) nmSame hr
      refine' pss_cons (ps_if ?c1 (pss_cons ?s1 (pss_one (ps_ret (pe_and ?l1 (pe_one (n_b (x := "all") nm (by walk_at "as") (cr_all nm.calm) PyProof.Rows.boot_all ?bg (pa_cons ?lc pa_nil))))))) pss_nil) ?rest
      case c1 => walk_at "pt"
      case s1 => walk_at "ps"
      case l1 => walk_at "pe"
      case bg => walk_at "mem"
      case rest => walk_at "pss"
      case lc =>
        refine' n_lc (own := [("_law_a", 2), ("_law_b", 3)]) (g := gTup K 2 (gCons (gName 2) (gCons (gName 3) gNil))) (NS' := [("_law_a", 2), ("_law_b", 3)]) (WS' := [("_law_a", 2), ("_law_b", 3)]) (G' := ["_law_same"]) (N := ["_law_found", "_law_due", "_law_a", "_law_b"]) (scD := defScope sSame) nm rfl rfl (by decide +kernel) (by decide +kernel) (n_zipA nm (by walk_at "as") ?zg ?za) (fun X' nm2 => ?lg) (fun X' nm2 => ?le)
        case zg => walk_at "mem"
        case za => walk_at "pa"
        case lg => walk_at "pg"
        case le =>
          refine' n_d nm2 D (Nat.le_refl _) ?ug ?ua
          case ug => walk_at "mem"
          case ua => walk_at "pa"
    refine ⟨_, rfl, by show 2 ≤ sizeLine; decide, fun q hq => ?_⟩
    have s0 : Same H (upd H q (.tup [.ty "list", .ty "tuple"])) := same_new hq
    have he' := he.same s0
    have cls : Paired ClsV [V.ty "list", V.ty "tuple"] [Value.type "list", Value.type "tuple"] := .cons (.ty "list") (.cons (.ty "tuple") .nil)
    cases he' with
    | flat hf =>
      obtain ⟨T, ty, hT⟩ := ty_flat (K := K) (H := upd H q (.tup [.ty "list", .ty "tuple"])) hf
      have h6 : T = "NoneType" ∨ T = "bool" ∨ T = "int" ∨ T = "str" ∨ T = "list" ∨ T = "tuple" := by
        rcases hT with h | h | h | h
        · exact .inl h
        · exact .inr (.inl h)
        · exact .inr (.inr (.inl h))
        · exact .inr (.inr (.inr (.inl h)))
      refine ⟨_, q, _, _, _, _, rfl, upd_same, cls, ty, kitLT hT, _, rfl, ?_⟩
      refine iteF ?_
      refine ⟨_, rfl, rfl, _, rfl, ?_⟩
      by_cases c : x = .non
      · subst c
        refine ⟨_, rfl, rfl, _, rfl, _, rfl, rfl, ?_⟩
        exact k _ s0
      · rw [decide_eq_false c]
        refine iteF ?_
        refine ⟨_, rfl, rfl, _, rfl, ?_⟩
        rw [decide_eq_false c]
        refine iteF ?_
        refine ⟨_, rfl, _, _, _, _, _, rfl, .ty "bool", ty, kit_ty (kit_bool h6), _, rfl, _, _, _, _, _, rfl, .ty "bool", ty, kit_ty (kit_bool h6), rfl, _, rfl, ?_⟩
        rw [bne_self]
        refine iteF ?_
        refine ⟨_, rfl, _, _, _, _, _, rfl, .ty "int", ty, kit_ty (kit_int h6), _, rfl, _, _, _, _, _, rfl, .ty "int", ty, kit_ty (kit_int h6), rfl, _, rfl, ?_⟩
        rw [bne_self]
        refine iteF ?_
        refine ⟨_, rfl, _, _, _, _, _, rfl, .ty "str", ty, kit_ty (kit_str hT), _, rfl, _, _, _, _, _, rfl, .ty "str", ty, kit_ty (kit_str hT), rfl, _, rfl, ?_⟩
        rw [decide_eq_true (rfl : V.bl (decide (T = "str")) = V.bl (decide (T = "str")))]
        refine iteT ?_
        refine ⟨_, rfl, _, rfl, scal_flat hf c, ?_⟩
        rw [decide_eq_true (rfl : x = x)]
        exact k _ s0
    | @lst m a b xs ys ha hb hl hz hall =>
      refine ⟨_, q, _, _, _, _, rfl, upd_same, cls, ty_l hb, kitL, _, rfl, ?_⟩
      refine iteT ?_
      refine ⟨_, rfl, _, _, _, _, _, rfl, .ty "list", ty_l ha, kit_ty (by decide +kernel : kitB "list" "list" = some true), _, rfl, _, _, _, _, _, rfl, .ty "list", ty_l hb, kit_ty (by decide +kernel : kitB "list" "list" = some true), rfl, _, rfl, ?_⟩
      refine iteF ?_
      refine ⟨_, rfl, _, _, _, _, _, rfl, .ty "tuple", ty_l ha, kit_ty (by decide +kernel : kitB "list" "tuple" = some false), _, rfl, _, _, _, _, _, rfl, .ty "tuple", ty_l hb, kit_ty (by decide +kernel : kitB "list" "tuple" = some false), rfl, _, rfl, ?_⟩
      refine iteF ?_
      refine ⟨_, rfl, a, xs, rfl, .inl ha, _, rfl, b, ys, rfl, .inl hb, rfl, _, rfl, ?_⟩
      rw [decide_eq_true (by rw [hl] : V.int (xs.length : Int) = V.int (ys.length : Int))]
      refine iteT ?_
      refine ⟨_, rfl, _, rfl, a, b, xs, ys, rfl, .inl ⟨ha, hb, fun Dl hD => ?_⟩⟩
      refine lcZg (xs := xs) (ys := ys) (fs := (List.replicate xs.length true).map V.bl) hl hD (by simp) (small1000 hz) (fun H2 j u v s1 h1 h2 => ⟨xs, ys, u, v, Same.seq s1 ha, Same.seq s1 hb, h1, h2⟩) (fun H2 s1 => ⟨xs, ys, Same.seq s1 ha, Same.seq s1 hb, .inl (Nat.le_refl _)⟩)
        (fun H2 j v H3 s1 hy => by obtain ⟨T, u, z, e1, e2, e3, e4, e5⟩ := hy; exact ⟨T, u, z, e1, e2, e3, e4 xs (Same.seq s1 ha), e5 ys (Same.seq s1 hb)⟩) ?_ ?_ (fun x y => rfl)
      · intro j u v z H2 Qk h1 h2 h3 s1 kk
        have ez : z = V.bl true := by
          rw [List.getElem?_map, List.getElem?_replicate] at h3
          split at h3
          · exact (Option.some.inj h3).symm
          · cases h3
        subst ez
        exact ⟨_, rfl, _, rfl, u, v, rfl, (hall j u v h1 h2).same s1, kk⟩
      · intro H2 s1 hDl
        refine ⟨Dl, _, rfl, SqL.of hDl, ?_⟩
        rw [all_rep]
        exact k H2 (Same.trans s0 s1)
    | @tup m a b xs ys ha hb hl hz hall =>
      refine ⟨_, q, _, _, _, _, rfl, upd_same, cls, ty_t hb, kitT, _, rfl, ?_⟩
      refine iteT ?_
      refine ⟨_, rfl, _, _, _, _, _, rfl, .ty "list", ty_t ha, kit_ty (by decide +kernel : kitB "tuple" "list" = some false), _, rfl, _, _, _, _, _, rfl, .ty "list", ty_t hb, kit_ty (by decide +kernel : kitB "tuple" "list" = some false), rfl, _, rfl, ?_⟩
      refine iteF ?_
      refine ⟨_, rfl, _, _, _, _, _, rfl, .ty "tuple", ty_t ha, kit_ty (by decide +kernel : kitB "tuple" "tuple" = some true), _, rfl, _, _, _, _, _, rfl, .ty "tuple", ty_t hb, kit_ty (by decide +kernel : kitB "tuple" "tuple" = some true), rfl, _, rfl, ?_⟩
      refine iteF ?_
      refine ⟨_, rfl, a, xs, rfl, .inr ha, _, rfl, b, ys, rfl, .inr hb, rfl, _, rfl, ?_⟩
      rw [decide_eq_true (by rw [hl] : V.int (xs.length : Int) = V.int (ys.length : Int))]
      refine iteT ?_
      refine ⟨_, rfl, _, rfl, a, b, xs, ys, rfl, .inr ⟨ha, hb, fun Dl hD => ?_⟩⟩
      refine lcZg (xs := xs) (ys := ys) (fs := (List.replicate xs.length true).map V.bl) hl hD (by simp) (small1000 hz) (fun H2 j u v s1 h1 h2 => ⟨xs, ys, u, v, sqT_same s1 ha, sqT_same s1 hb, h1, h2⟩) (fun H2 s1 => ⟨xs, ys, sqT_same s1 ha, sqT_same s1 hb, .inl (Nat.le_refl _)⟩)
        (fun H2 j v H3 s1 hy => by obtain ⟨T, u, z, e1, e2, e3, e4, e5⟩ := hy; exact ⟨T, u, z, e1, e2, e3, e4 xs (sqT_same s1 ha), e5 ys (sqT_same s1 hb)⟩) ?_ ?_ (fun x y => rfl)
      · intro j u v z H2 Qk h1 h2 h3 s1 kk
        have ez : z = V.bl true := by
          rw [List.getElem?_map, List.getElem?_replicate] at h3
          split at h3
          · exact (Option.some.inj h3).symm
          · cases h3
        subst ez
        exact ⟨_, rfl, _, rfl, u, v, rfl, (hall j u v h1 h2).same s1, kk⟩
      · intro H2 s1 hDl
        refine ⟨Dl, _, rfl, SqL.of hDl, ?_⟩
        rw [all_rep]
        exact k H2 (Same.trans s0 s1)
end

abbrev sMade : Stmt := top 50
/-- the law's own machine: a tuple of the prime, the list of its states, the start -/
def MAt (H : Hp) (t : Addr) (p : Int) (M : Mach) (st : Int) : Prop := ∃ r xs, H t = some (.tup [.int p, .ref r, .int st]) ∧ H r = some (.lst xs) ∧ StsAt H xs M
theorem MAt.same {H H' : Hp} {t : Addr} {p : Int} {M : Mach} {st : Int} (h : MAt H t p M st) (e : Same H H') : MAt H' t p M st := by
  obtain ⟨r, xs, h1, h2, h3⟩ := h
  exact ⟨r, xs, e _ _ h1, e _ _ h2, h3.same e⟩
def spMade (C : Addr) : Sp := fun vs H Q _ => ∃ (t : Addr) (p : Int) (M : Mach) (st : Int), vs = [.ref t] ∧ MAt H t p M st ∧ OkT p M st ∧ ∀ H' x, Same H H' → H x = none → TurAt C H' x p M st → Q (.ref x) H'
def gMk (vs zs : List V) : List V := vs ++ zs
section
variable {P : Program} {w : World} {K : PySem.W.Frag} {mg : Str → Option Value} {base : Heap} {aP : Addr} {tD : Tok} {C : Addr} {mc u : Value}
theorem scMade : FnScope ["_law_m"] ["_law_m"] (defScope sMade) := ⟨rfl, rfl, rfl, by decide +kernel, rfl, by decide +kernel, by decide +kernel⟩
theorem nmMade : nmB ["_law_m"] [("_law_m", 0)] ["Turner", "list"] (defScope sMade) = true := by decide +kernel
theorem ok_made {f : Addr} {fd : FuncData} (F : Fun K "_law_made" "_law_made" sMade f fd) (B : Bn mg) (cv : Cv K mg C mc u) (D : Kf P w K mg base 5 C 2 ["self", "prime", "states", "start"] ["start"] gMk (spInit C)) : FnOk P w K mg base CX0 7 f fd ["_law_m"] (spMade C) := by
  refine F.ok scMade (fun vs H Q E h => ?_) (fun cdv A outer s H vs Q E hr h => ?_)
  · obtain ⟨t, p, M, st, rfl, _⟩ := h
    rfl
  · obtain ⟨t, p, M, st, rfl, ⟨r, xs, h1, h2, h3⟩, hO, k⟩ := h
    obtain ⟨b1, b2, b3, b4, b5, b6, b7, b8, b9, b10, b11⟩ := B
    refine' ex_mk ?d ?_
    case d =>
      have nm := nm_of (CX := CX0) (P := P) (w := w) (K := K) (mg := mg) (base := base) (outer := outer) (H := H) (E := E) nmMade hr
      refine' pss_one (ps_ret (n_mk nm cv.mgC D (by decide) ?g (pa_cons ?a1 (pa_cons (n_t (x := "list") nm (by walk_at "as") call_list_of PyProof.Rows.boot_list ?bg (pa_cons ?a2 pa_nil)) pa_nil)) (pk_cons ?a3 pk_nil)))
      case g => walk_at "mem"
      case bg => walk_at "mem"
      case a1 => walk_at "peT"
      case a2 => walk_at "peT"
      case a3 => walk_at "peT"
    refine ⟨_, rfl, t, _, 0, _, rfl, rfl, SqT.of h1, rfl, ?_⟩
    refine ⟨_, rfl, t, _, 1, _, rfl, rfl, SqT.of h1, rfl, r, xs, rfl, .inl (SqL.of h2), fun l hl => ?_⟩
    have s1 : Same H (upd H l (.lst xs)) := same_new hl
    refine ⟨_, rfl, t, _, 2, _, rfl, rfl, SqT.of (s1 _ _ h1), rfl, rfl, rfl, fun x dx nx ndx ne => ?_⟩
    have s2 : Same H (upd (upd (upd H l (.lst xs)) dx (.own x)) x (.ins C dx [])) := fun c o e => by
      rw [upd_ne (ne_of_none (s1 _ _ e) nx), upd_ne (ne_of_none (s1 _ _ e) ndx)]
      exact s1 _ _ e
    have hx0 : H x = none := Same.free s1 nx
    have hl2 : upd (upd (upd H l (.lst xs)) dx (.own x)) x (.ins C dx []) l = some (.lst xs) := by
      rw [upd_ne (ne_of_none upd_same nx), upd_ne (ne_of_none upd_same ndx), upd_same]
    refine ⟨x, dx, p, l, xs, M, st, rfl, upd_same, hl2, h3.same s2, hO, fun H' t' hk ht hx => ⟨rfl, ?_⟩⟩
    have s3 : Same H H' := fun c o e => hk c o (ne_of_none e hx0) (s2 _ _ e)
    exact k H' x s3 hx0 ⟨dx, t', xs, hx, ht, h3.same s3⟩
end

abbrev sWay : Stmt := top 51
abbrev sBeh : Stmt := top 52
def spWay : Sp := fun vs H Q _ => ∃ (t a : Addr) (p : Int) (M : Mach) (st : Int) (ds : List Int), vs = [.ref t, .ref a] ∧ MAt H t p M st ∧ OkT p M st ∧ H a = some (.tup (ds.map V.int)) ∧ Figs p ds ∧ ds.length ≤ 200 ∧
  ∀ H' r, Same H H' → H r = none → H' r = some (.lst ((wayM M st ds).map V.int)) → Q (.ref r) H'
def spBeh : Sp := fun vs H Q _ => ∃ (t a : Addr) (p : Int) (M : Mach) (st : Int) (ds : List Int), vs = [.ref t, .ref a] ∧ MAt H t p M st ∧ OkT p M st ∧ H a = some (.tup (ds.map V.int)) ∧ Figs p ds ∧ ds.length ≤ 200 ∧
  ∀ H' r, Same H H' → H r = none → H' r = some (.tup ((behM p M st ds).map V.int)) → Q (.ref r) H'
section
variable {P : Program} {w : World} {K : PySem.W.Frag} {mg : Str → Option Value} {base : Heap} {aP : Addr} {tD : Tok} {C : Addr} {mc u : Value}
theorem scWay : FnScope ["_law_m", "_law_row", "_law_found", "_law_here", "_law_x"] ["_law_m", "_law_row"] (defScope sWay) := ⟨rfl, rfl, rfl, by decide +kernel, rfl, by decide +kernel, by decide +kernel⟩
theorem nmWay : nmB ["_law_m", "_law_row", "_law_found", "_law_here", "_law_x"] [("_law_m", 0), ("_law_row", 1), ("_law_found", 2), ("_law_here", 3), ("_law_x", 4)] [] (defScope sWay) = true := by decide +kernel
theorem ok_way {f : Addr} {fd : FuncData} (F : Fun K "_law_way" "_law_way" sWay f fd) : FnOk P w K mg base CX0 1 f fd ["_law_m", "_law_row"] spWay := by
  refine F.ok scWay (fun vs H Q E h => ?_) (fun cdv A outer s H vs Q E hr h => ?_)
  · obtain ⟨t, a, p, M, st, ds, rfl, _⟩ := h
    rfl
  · obtain ⟨t, a, p, M, st, ds, rfl, ⟨m, xs, h1, h2, h3⟩, hO, ha, hF, hl, k⟩ := h
    refine' ex_mk ?d ?_
    case d =>
      have nm := nm_of (CX := CX0) (P := P) (w := w) (K := K) (mg := mg) (base := base) (outer := outer) (H := H) (E := E) nmWay hr
      refine' pss_cons (ps_par (i := 2) (j := 3) rfl nm.nd rfl rfl (by decide) rfl rfl (pa_cons ?e1 (pa_cons ?e2 pa_nil)) (by rfl)) (pss_cons (n_for nm PassesOwn.never (pi_tup ?li) ?lg (pss_cons ?b1 (pss_one (ps_asg (n_ixT nm (n_ixT nm (n_ixL nm ?q1 ?q2 (fun _ _ => rfl)) pe_int (fun _ _ => rfl)) ?q3 (fun _ _ => rfl)) ?b3)))) (pss_one ?s5))
      case e1 => walk_at "pe"
      case e2 => walk_at "peT"
      case li => walk_at "pe"
      case lg => walk_at "pg"
      case b1 => walk_at "ps"
      case q1 => walk_at "peT"
      case q2 => walk_at "pe"
      case q3 => walk_at "pe"
      case b3 => walk_at "pg"
      case s5 => walk_at "ps"
    refine ⟨by show 0 ≤ sizeLine; decide, fun r hr1 => ?_⟩
    have s2 : Same H (upd H r (.lst [])) := same_new hr1
    refine ⟨_, rfl, t, _, 2, _, rfl, rfl, SqT.of (s2 _ _ h1), rfl, _, _, rfl, ?_⟩
    refine ⟨_, rfl, a, rfl, ⟨_, SqT.of (s2 _ _ ha)⟩, ?_⟩
    refine for_tup (K := K) (a := a) (xs := ds.map V.int) (fun i σ H' => ∃ v, σ = [some (.ref t), some (.ref a), some (.ref r), some (.int (runM M st (ds.take i))), v] ∧ Same H H' ∧ H' r = some (.lst ((wayM M st (ds.take i)).map V.int)))
      ⟨none, rfl, s2, upd_same⟩ (fun i σ H' _ ⟨_, _, e, _⟩ => SqT.of (e _ _ ha)) ?_ ?_
    · rintro i y σ H' hy ⟨v, rfl, s3, hr2⟩
      obtain ⟨d, hd, rfl⟩ := int_of hy
      have q := runM_in hO.ok rfl (ds.take i) hO.st0 hO.st1 (figs_take hF i)
      have fd := hF d (List.mem_of_getElem? hd)
      obtain ⟨as, g, e1, e2, e3⟩ := (h3.same s3).get q.1 q.2
      refine ⟨_, rfl, .inl ⟨rfl, _, SqL.of hr2⟩, _, rfl, r, _, _, rfl, rfl, hr2, ?_, ?_⟩
      · rw [List.length_map, wayM_len, List.length_take]
        exact small1000 (by omega)
      · have s4 : Same H (upd H' r (.lst ((wayM M st (ds.take i)).map V.int ++ [.int (runM M st (ds.take i))]))) := same_put s3 hr1
        have nr : ∀ {c : Addr} {ys : List V}, H' c = some (.tup ys) → upd H' r (.lst ((wayM M st (ds.take i)).map V.int ++ [.int (runM M st (ds.take i))])) c = some (.tup ys) := fun {c ys} e => by
          rw [upd_ne (ne_of e hr2 (by intro z; cases z))]; exact e
        refine ⟨_, rfl, t, _, 1, _, rfl, rfl, SqT.of (s4 _ _ h1), rfl, _, rfl, m, xs, _, _, rfl, rfl, SqL.of (s4 _ _ h2), e1, ?_⟩
        refine ⟨as, _, 1, _, rfl, rfl, SqT.of (nr e2), rfl, _, rfl, g, _, d, _, rfl, rfl, SqT.of (nr e3), at_ints fd.1 (by rw [many_at hO.ok q.1 q.2]; exact fd.2), ?_⟩
        refine ⟨some (.int d), ?_, s4, ?_⟩
        · rw [take_one hd, runM_snoc]; rfl
        · rw [upd_same, take_one hd, wayM_snoc, List.map_append]; rfl
    · rintro σ H' ⟨v, rfl, s3, hr2⟩
      rw [List.length_map, List.take_length] at hr2
      exact ⟨_, rfl, k H' r s3 hr1 hr2⟩
theorem scBeh : FnScope ["_law_m", "_law_row", "_law_way_here", "_law_k"] ["_law_m", "_law_row"] (defScope sBeh) := ⟨rfl, rfl, rfl, by decide +kernel, rfl, by decide +kernel, by decide +kernel⟩
theorem nmBeh : nmB ["_law_m", "_law_row", "_law_way_here", "_law_k"] [("_law_m", 0), ("_law_row", 1), ("_law_way_here", 2)] ["_law_way", "tuple", "range", "len"] (defScope sBeh) = true := by decide +kernel
theorem ok_beh {f : Addr} {fd : FuncData} (F : Fun K "_law_behind" "_law_behind" sBeh f fd) (B : Bn mg) (D : Df P w K mg base 1 "_law_way" ["_law_m", "_law_row"] spWay) : FnOk P w K mg base CX0 2 f fd ["_law_m", "_law_row"] spBeh := by
  refine F.ok scBeh (fun vs H Q E h => ?_) (fun cdv A outer s H vs Q E hr h => ?_)
  · obtain ⟨t, a, p, M, st, ds, rfl, _⟩ := h
    rfl
  · obtain ⟨t, a, p, M, st, ds, rfl, hM, hO, ha, hF, hl, k⟩ := h
    obtain ⟨b1, b2, b3, b4, b5, b6, b7, b8, b9, b10, b11⟩ := B
    refine' ex_mk ?d ?_
    case d =>
      have nm := nm_of (CX := CX0) (P := P) (w := w) (K := K) (mg := mg) (base := base) (outer := outer) (H := H) (E := E) nmBeh hr
      refine' pss_cons ?s1 (pss_one (ps_ret (n_t (x := "tuple") nm (by walk_at "as") call_tuple_of PyProof.Rows.boot_tuple ?bg (pa_cons ?lc pa_nil))))
      case s1 => walk_at "ps"
      case bg => walk_at "mem"
      case lc =>
        refine' n_lc (own := [("_law_k", 3)]) (g := gName 3) (NS' := [("_law_m", 0), ("_law_row", 1), ("_law_way_here", 2), ("_law_k", 3)]) (WS' := [("_law_k", 3)]) (G' := ["int"]) (N := ["_law_m", "_law_row", "_law_way_here", "_law_k"]) (scD := defScope sBeh) nm rfl rfl (by decide +kernel) (by decide +kernel) ?li (fun X' nm2 => ?lg)
          (fun X' nm2 => pe_op op_mod (n_t (x := "int") nm2 (by walk_at "as") call_int1 PyProof.Rows.boot_int ?bi (pa_cons (pe_op op_add (n_ixT nm2 ?r1 ?r2 (fun _ _ => rfl)) (n_ixT nm2 (n_ixL nm2 ?r3 ?r4 (fun _ _ => rfl)) pe_int (fun _ _ => rfl))) pa_nil)) ?r5)
        case li => walk_at "pi"
        case lg => walk_at "pg"
        case bi => walk_at "mem"
        case r1 => walk_at "pe"
        case r2 => walk_at "pe"
        case r3 => walk_at "peT"
        case r4 => walk_at "pe"
        case r5 => walk_at "peT"
    have hM' := hM
    obtain ⟨m, xs, h1, h2, h3⟩ := hM
    refine ⟨_, rfl, _, rfl, t, a, p, M, st, ds, rfl, hM', hO, ha, hF, hl, fun H1 r s1 hr0 hr1 => ?_⟩
    refine ⟨_, rfl, a, _, rfl, .inr (SqT.of (s1 _ _ ha)), _, rfl, by omega, by rw [List.length_map]; omega, fun Dl hD => ?_⟩
    refine lcR (n := ((ds.map V.int).length : Int).toNat) (fs := (behM p M st ds).map V.int) hD (by simp [behM_len]) (by rw [List.length_map]; exact small1000 (by omega)) ?_ ?_ (fun x => rfl)
    · intro j z H' Qk hz s2 kk
      obtain ⟨b, hb, rfl⟩ := int_of hz
      have hj : j < ds.length := by
        have := (List.getElem?_eq_some_iff.mp hb).1
        rw [behM_len] at this
        exact this
      have hd : ds[j]? = some ds[j] := List.getElem?_eq_getElem hj
      have hj2 : j < (wayM M st ds).length := by rw [wayM_len]; exact hj
      have hw : (wayM M st ds)[j]? = some (wayM M st ds)[j] := List.getElem?_eq_getElem hj2
      have eb : b = (ds[j] + turnM M (wayM M st ds)[j]) % p := by
        unfold behM at hb
        rw [List.getElem?_zipWith, hd, hw] at hb
        exact (Option.some.inj hb).symm
      subst eb
      have qi := wayM_in hO.ok rfl ds hO.st0 hO.st1 hF _ (List.getElem_mem hj2)
      have s3 := Same.trans s1 s2
      obtain ⟨as, g, e1, e2, e3⟩ := (h3.same s3).get qi.1 qi.2
      have p2 := hO.pr.two
      have ez : (0 : Int) + (j : Int) = (j : Int) := by omega
      rw [ez]
      refine ⟨_, rfl, _, rfl, a, _, _, _, rfl, rfl, SqT.of (s3 _ _ ha), atI_nat (by rw [List.getElem?_map, hd]; rfl), ?_⟩
      refine ⟨_, rfl, t, _, 1, _, rfl, rfl, SqT.of (s3 _ _ h1), rfl, _, rfl, _, rfl, r, _, _, _, rfl, rfl, SqL.of (s2 _ _ hr1), atI_nat (by rw [List.getElem?_map, hw]; rfl), ?_⟩
      refine ⟨m, xs, _, _, rfl, rfl, SqL.of (s3 _ _ h2), e1, as, _, 0, _, rfl, rfl, SqT.of e2, rfl, _, _, rfl, rfl, .inl ⟨_, rfl, ?_⟩⟩
      refine ⟨_, rfl, t, _, 0, _, rfl, rfl, SqT.of (s3 _ _ h1), rfl, _, _, rfl, rfl, (by show (0 : Int) < p; omega), ?_⟩
      exact kk _ (fun _ _ e => e)
    · intro H2 s2 hDl
      refine ⟨Dl, _, rfl, .inl ⟨SqL.of hDl, fun q hq => ?_⟩⟩
      have s3 := Same.trans s1 s2
      exact k _ q (same_add s3 hq) (Same.free s3 hq) upd_same
end

/-- C(e, ..), the start by its default -/
structure Kd0 (P : Program) (w : World) (K : PySem.W.Frag) (mg : Str → Option Value) (base : Heap) (k : Nat) (C : Addr) (ps : List Str) (sp : Sp) : Prop where
  ex : ∃ f fd ds, Mk K C f ∧ Vals [V.int 0] ds ∧ Binds K fd ps ds ∧ FnOk P w K mg base CX0 k f fd ps sp
abbrev sStates : Stmt := inClass (top 36) 7
def spSts (C : Addr) : Sp := fun vs H Q _ => ∃ (x : Addr) (p : Int) (M : Mach) (st : Int), vs = [.ref x] ∧ TurAt C H x p M st ∧ ∀ H' r xs, Same H H' → H r = none → H' r = some (.lst xs) → StsAt H' xs M → Q (.ref r) H'
section
variable {P : Program} {w : World} {K : PySem.W.Frag} {mg : Str → Option Value} {base : Heap} {aP : Addr} {tD : Tok} {C : Addr} {mc u : Value}
theorem scSts : FnScope ["self"] ["self"] (defScope sStates) := ⟨rfl, rfl, rfl, by decide +kernel, rfl, by decide +kernel, by decide +kernel⟩
theorem nmSts : nmB ["self"] [("self", 0)] ["list"] (defScope sStates) = true := by decide +kernel
theorem ok_sts {f : Addr} {fd : FuncData} (F : Fun K "states" "Turner.states" sStates f fd) (B : Bn mg) (T : Tc K C) : FnOk P w K mg base CX0 1 f fd ["self"] (spSts C) := by
  refine F.ok scSts (fun vs H Q E h => ?_) (fun cdv A outer s H vs Q E hr h => ?_)
  · obtain ⟨x, p, M, st, rfl, _⟩ := h
    rfl
  · obtain ⟨x, p, M, st, rfl, hT, k⟩ := h
    obtain ⟨b1, b2, b3, b4, b5, b6, b7, b8, b9, b10, b11⟩ := B
    refine' ex_mk ?d ?_
    case d =>
      have nm := nm_of (CX := CX0) (P := P) (w := w) (K := K) (mg := mg) (base := base) (outer := outer) (H := H) (E := E) nmSts hr
      walk_at "pss"
    obtain ⟨dx, t, xs, h1, h2, h3⟩ := hT
    refine ⟨_, rfl, x, C, dx, _, _, rfl, h1, T.cl, T.nS, tf_s _ _ _, t, xs, rfl, .inr (SqT.of h2), fun l hl => ?_⟩
    exact k _ l xs (same_new hl) hl upd_same (h3.same (same_new hl))
end

abbrev sFew : Stmt := top 54
def fewM (p : Int) : Int := if p = 2 then 8 else if p = 3 then 5 else 3
def spFew : Sp := fun vs H Q _ => ∃ (p : Int), vs = [.int p] ∧ IsP p ∧ ∀ H', Same H H' → Q (.int (fewM p)) H'
section
variable {P : Program} {w : World} {K : PySem.W.Frag} {mg : Str → Option Value} {base : Heap} {aP : Addr} {tD : Tok} {C : Addr} {mc u : Value}
theorem scFew : FnScope ["_law_p"] ["_law_p"] (defScope sFew) := ⟨rfl, rfl, rfl, by decide +kernel, rfl, by decide +kernel, by decide +kernel⟩
theorem nmFew : nmB ["_law_p"] [("_law_p", 0)] [] (defScope sFew) = true := by decide +kernel
theorem ok_few {f : Addr} {fd : FuncData} (F : Fun K "_law_few" "_law_few" sFew f fd) : FnOk P w K mg base CX0 1 f fd ["_law_p"] spFew := by
  refine F.ok scFew (fun vs H Q E h => ?_) (fun cdv A outer s H vs Q E hr h => ?_)
  · obtain ⟨p, rfl, _⟩ := h
    rfl
  · obtain ⟨p, rfl, hP, k⟩ := h
    refine' ex_mk ?d ?_
    case d =>
      have nm := nm_of (CX := CX0) (P := P) (w := w) (K := K) (mg := mg) (base := base) (outer := outer) (H := H) (E := E) nmFew hr
      have hu := nm.room.un
      refine' pss_one (ps_ret (pe_dget (by omega) (pe_disp (pps_cons pe_int pe_int (pps_cons pe_int pe_int (pps_cons pe_int pe_int (pps_cons pe_int pe_int pps_nil)))) rfl rfl (by decide) (by decide)) ?i (fun _ _ => rfl)))
      case i => walk_at "pe"
    intro d hd
    refine ⟨upd_same, [(.inl 2, .int 8), (.inl 3, .int 5), (.inl 5, .int 3), (.inl 7, .int 3)], rfl, by decide, ?_⟩
    have s1 : Same H (upd (upd H d (.dK [])) d (.dK (mergeK [] [(.inl 2, .int 8), (.inl 3, .int 5), (.inl 5, .int 3), (.inl 7, .int 3)]))) := same_put (same_new hd) hd
    have g := DGet.k (k := (.inl p : Key)) (upd_same (a := d) (o := HO.dK (mergeK [] [(.inl 2, .int 8), (.inl 3, .int 5), (.inl 5, .int 3), (.inl 7, .int 3)])) (H := upd H d (.dK [])))
    have e : valV (mergeK [] [(.inl 2, V.int 8), (.inl 3, .int 5), (.inl 5, .int 3), (.inl 7, .int 3)]) (.inl p : Key) = some (.int (fewM p)) := by
      rcases hP with rfl | rfl | rfl | rfl <;> rfl
    rw [e] at g
    exact ⟨_, rfl, d, _, rfl, g, k _ s1⟩
end

/-- the bag stands apart from a machine -/
theorem MAt.apart {H : Hp} {b l t r : Addr} {xs : List V} {M : Mach} (B : Bag H b l) (h : H r = some (.lst xs)) (hM : StsAt H xs M) : r ≠ b := fun e => by
  obtain ⟨i, k, m, u, ns, hb, _⟩ := B
  rw [e, hb] at h
  have e2 := HO.lst.inj (Option.some.inj h)
  subst e2
  have h1 : 1 < M.length := by rw [← hM.1]; show 1 < 5; decide
  obtain ⟨a, g, e3, _⟩ := hM.2 1 (.int i) M[1] rfl (List.getElem?_eq_getElem h1)
  cases e3
theorem MAt.keep {H H' : Hp} {b l t : Addr} {p : Int} {M : Mach} {st : Int} (h : MAt H t p M st) (B : Bag H b l) (k : Keep b H H') : MAt H' t p M st := by
  obtain ⟨r, xs, h1, h2, h3⟩ := h
  exact ⟨r, xs, k t _ (B.tup h1) h1, k r _ (MAt.apart (t := t) B h2 h3) h2, h3.keep B k⟩

abbrev sBt : Stmt := top 56
def spBt : Sp := fun vs H Q _ => ∃ (b l t : Addr) (p : Int) (M : Mach) (st : Int), vs = [.ref b, .ref t] ∧ Bag H b l ∧ MAt H t p M st ∧ OkT p M st ∧ ∀ H' y N, Stp b l H H' → MAt H' y p N st → OkT p N st → N.length = M.length → Q (.ref y) H'
section
variable {P : Program} {w : World} {K : PySem.W.Frag} {mg : Str → Option Value} {base : Heap} {aP : Addr} {tD : Tok} {C S : Addr} {mc u : Value}
theorem scBt : FnScope ["_law_bag_here", "_law_m", "_law_p", "_law_many", "_law_at", "_law_k", "_law_turn", "_law_goals", "_law_row"] ["_law_bag_here", "_law_m"] (defScope sBt) := ⟨rfl, rfl, rfl, by decide +kernel, rfl, by decide +kernel, by decide +kernel⟩
theorem nmBt : nmB ["_law_bag_here", "_law_m", "_law_p", "_law_many", "_law_at", "_law_k", "_law_turn", "_law_goals", "_law_row"] [("_law_bag_here", 0), ("_law_m", 1), ("_law_p", 2), ("_law_many", 3), ("_law_at", 4), ("_law_k", 5), ("_law_turn", 6), ("_law_goals", 7), ("_law_row", 8)] ["len", "_law_pull", "_law_of"] (defScope sBt) = true := by decide +kernel
theorem ok_bt {f : Addr} {fd : FuncData} (F : Fun K "_law_bent" "_law_bent" sBt f fd) (B : Bn mg) (D1 : Df P w K mg base 1 "_law_pull" ["_law_bag_here", "_law_many"] spPull) (D6 : Df P w K mg base 2 "_law_of" ["_law_bag_here", "_law_some"] spOf) : FnOk P w K mg base CX0 3 f fd ["_law_bag_here", "_law_m"] spBt := by
  refine F.ok scBt (fun vs H Q E h => ?_) (fun cdv A outer s H vs Q E hr h => ?_)
  · obtain ⟨b, l, t, p, M, st, rfl, _⟩ := h
    rfl
  · obtain ⟨b, l, t, p, M, st, rfl, hB, hA, hOk, k⟩ := h
    obtain ⟨b1, b2, b3, b4, b5, b6, b7, b8, b9, b10, b11⟩ := B
    refine' ex_mk ?d ?_
    case d =>
      have nm := nm_of (CX := CX0) (P := P) (w := w) (K := K) (mg := mg) (base := base) (outer := outer) (H := H) (E := E) nmBt hr
      refine' pss_cons (ps_par (i := 2) (j := 3) rfl nm.nd rfl rfl (by decide) rfl rfl (pa_cons ?p1 (pa_cons (n_len nm (by walk_at "as") ?g0 (pa_cons ?p2 pa_nil)) pa_nil)) (by rfl)) (pss_cons (ps_par (i := 4) (j := 5) rfl nm.nd rfl rfl (by decide) rfl rfl (pa_cons ?e1 (pa_cons ?e2 pa_nil)) (by rfl))
        (pss_cons (ps_asg (n_ixL nm ?i1 ?i2 (fun _ _ => rfl)) ?g) (pss_cons ?c6 (pss_one ?c7))))
      case p1 => walk_at "peT"
      case g0 => walk_at "mem"
      case p2 => walk_at "peT"
      case e1 => walk_at "pe"
      case e2 => walk_at "pe"
      case i1 => walk_at "peT"
      case i2 => walk_at "pe"
      case g => walk_at "pg"
      case c6 =>
        refine' ps_asg (n_d nm D6 (by decide) ?gs (pa_cons ?a1 (pa_cons (pe_lst (pa_cons (pe_tup (pa_cons ?a3 (pa_cons ?a5 pa_nil))) (pa_cons (pe_tup (pa_cons ?a4 (pa_cons (pe_op op_catA (pe_op op_catA (pe_slice sl_tupA ?q1 po_none (po_some ?q2)) ?q3) (pe_slice sl_tupA ?q4 (po_some ?q5) po_none)) pa_nil))) pa_nil))) pa_nil))) ?g
        case gs => walk_at "mem"
        case a1 => walk_at "pe"
        case a3 => walk_at "pe"
        case a5 => walk_at "pe"
        case a4 => walk_at "pe"
        case q1 => walk_at "pe"
        case q2 => walk_at "pe"
        case q3 => walk_at "pe"
        case q4 => walk_at "pe"
        case q5 => walk_at "pe"
        case g => walk_at "pg"
      case c7 =>
        refine' ps_ret (pe_tup (pa_cons ?a1 (pa_cons (pe_op op_cat (pe_op op_cat (pe_slice sl_list ?q1 po_none (po_some ?q2)) ?q3) (pe_slice sl_list ?q4 (po_some ?q5) po_none)) (pa_cons ?a2 pa_nil))))
        case a1 => walk_at "pe"
        case q1 => walk_at "peT"
        case q2 => walk_at "pe"
        case q3 => walk_at "pe"
        case q4 => walk_at "peT"
        case q5 => walk_at "pe"
        case a2 => walk_at "peT"
    obtain ⟨r, xs, ht, hr2, hM⟩ := hA
    have hP := hOk.pr
    have hO := hOk.ok
    have hp2 := hP.two
    have hx := hM.1
    have z0 := hOk.st0
    have z1 := hOk.st1
    have hle := hOk.le
    have nrb : r ≠ b := MAt.apart (t := t) hB hr2 hM
    refine ⟨_, rfl, t, _, 0, _, rfl, rfl, SqT.of ht, rfl, ?_⟩
    refine ⟨_, rfl, t, _, 1, _, rfl, rfl, SqT.of ht, rfl, r, xs, rfl, .inl (SqL.of hr2), ?_⟩
    refine ⟨_, _, rfl, ?_⟩
    refine ⟨_, rfl, _, rfl, b, l, (xs.length : Int), rfl, hB, by omega, by omega, fun H4 at' st4 a0 a1 => ?_⟩
    refine ⟨_, rfl, _, rfl, b, l, p, rfl, st4.2, by omega, by omega, fun H5 k' st5 k0 k1 => ?_⟩
    have S6 : Stp b l H H5 := st4.trans st5
    refine ⟨_, _, rfl, ?_⟩
    obtain ⟨as, gs, ea, e1, e2, emem⟩ := st_get hM a0 (by rw [hx] at a1; exact a1)
    have cM : ∀ {Hc : Hp}, Stp b l H Hc → Hc t = some (.tup [.int p, .ref r, .int st]) ∧ Hc r = some (.lst xs) ∧ StsAt Hc xs M := fun S => ⟨S.1 _ _ (hB.tup ht) ht, S.1 _ _ nrb hr2, hM.keep hB S.1⟩
    generalize hs : M.getD at'.toNat (0, []) = s at *
    have cG : ∀ {Hc : Hp}, Stp b l H Hc → Hc gs = some (.tup (s.2.map V.int)) := fun S => S.1 _ _ (hB.tup e2) e2
    refine ⟨_, rfl, t, _, 1, _, rfl, rfl, SqT.of (cM S6).1, rfl, _, rfl, r, xs, at', _, rfl, rfl, SqL.of (cM S6).2.1, ea, ?_⟩
    refine ⟨as, _, rfl, SqT.of (S6.1 _ _ (hB.tup e1) e1), rfl, _, _, rfl, _, _, rfl, rfl, ?_⟩
    obtain ⟨kn, rfl⟩ : ∃ n : Nat, k' = n := ⟨k'.toNat, by omega⟩
    obtain ⟨an, rfl⟩ : ∃ n : Nat, at' = n := ⟨at'.toNat, by omega⟩
    have sT := hO.turn s emem
    have sM := hO.many s emem
    have sG := hO.goal s emem
    refine ⟨_, rfl, _, rfl, _, rfl, b, l, p, rfl, S6.2, by omega, by omega, fun H8 d st8 d0 d1 => ?_⟩
    refine ⟨_, rfl, by show 2 ≤ sizeLine; decide, fun q2 hq2 => ?_⟩
    have S9 : Stp b l H (upd H8 q2 (.tup [.int d, .ref gs])) := (S6.trans st8).add hq2
    have eq2 : upd H8 q2 (.tup [.int d, .ref gs]) q2 = some (.tup [.int d, .ref gs]) := upd_same
    generalize upd H8 q2 (.tup [.int d, .ref gs]) = H9 at *
    refine ⟨_, rfl, _, rfl, _, rfl, _, rfl, sl_anyZ rfl (cG S9) fun r1 Ha sa hr1 => ?_⟩
    have S9a := stp_same S9.2 sa
    have Sa := S9.trans S9a
    refine ⟨_, rfl, _, rfl, b, l, (xs.length : Int), rfl, Sa.2, by omega, by omega, fun Hb e stb f0 f1 => ?_⟩
    refine ⟨by show 1 ≤ sizeLine; decide, fun q4 hq4 => ?_⟩
    have Sac : Stp b l Ha (upd Hb q4 (.tup [.int e])) := stb.add hq4
    have eq4 : upd Hb q4 (.tup [.int e]) q4 = some (.tup [.int e]) := upd_same
    generalize upd Hb q4 (.tup [.int e]) = Hc at *
    have Sc := Sa.trans Sac
    refine cat_any (Sac.1 _ _ (Sa.2.tup hr1) hr1) eq4 (by rw [List.length_take, List.length_map]; show _ + 1 ≤ 1000; omega) fun r2 Hd sd hr2' => ?_
    have Scd := stp_same Sc.2 sd
    have Sd := Sc.trans Scd
    refine ⟨_, rfl, _, rfl, _, _, rfl, rfl, _, rfl, ?_⟩
    dsimp only [tNoPart]
    refine sl_anyDZ (n := kn + 1) (by omega) (cG Sd) fun r3 He se hr3 => ?_
    have Sde := stp_same Sd.2 se
    have Se := Sd.trans Sde
    refine cat_any (se _ _ hr2') hr3 (by simp only [List.length_append, List.length_take, List.length_drop, List.length_map, List.length_cons, List.length_nil]; omega) fun r4 Hf sf hr4 => ?_
    have Sef := stp_same Se.2 sf
    have Sf := Se.trans Sef
    refine ⟨by show 2 ≤ sizeLine; decide, fun q3 hq3 => ?_⟩
    have Sfg : Same Hf (upd Hf q3 (.tup [.int s.1, .ref r4])) := same_new hq3
    have eq3 : upd Hf q3 (.tup [.int s.1, .ref r4]) q3 = some (.tup [.int s.1, .ref r4]) := upd_same
    generalize upd Hf q3 (.tup [.int s.1, .ref r4]) = Hg at *
    refine ⟨by show 2 ≤ sizeLine; decide, fun ql hql => ?_⟩
    have Sgh : Same Hg (upd Hg ql (.lst [.ref q2, .ref q3])) := same_new hql
    have eql : upd Hg ql (.lst [.ref q2, .ref q3]) ql = some (.lst [.ref q2, .ref q3]) := upd_same
    have nql : ql ≠ b := (Sf.same Sfg).2.ne hql
    generalize upd Hg ql (.lst [.ref q2, .ref q3]) = Hh at *
    have Sfh := Same.trans Sfg Sgh
    have Sh := Sf.same Sfh
    have S9h : Stp b l H9 Hh := ((((S9a.trans Sac).trans Scd).trans Sde).trans Sef).same Sfh
    have k1' : (s.2.take kn ++ [e] ++ s.2.drop (kn + 1)).length = s.2.length := by simp only [List.length_append, List.length_take, List.length_drop, List.length_cons, List.length_nil]; omega
    have e4 : Hh r4 = some (.tup ((s.2.take kn ++ [e] ++ s.2.drop (kn + 1)).map V.int)) := by
      have := Sfh _ _ hr4
      rw [this]
      simp
    refine ⟨b, l, ql, _, rfl, Sh.2, eql, nql, by show 0 < 2; decide, by show 2 ≤ 1000; decide, fun Hi j y sti hy => ?_⟩
    obtain ⟨s', qs, rfl, hS', T1, T2, T3⟩ : ∃ (s' : Int × List Int) (qs : Addr), y = .ref qs ∧ StAt Hi (.ref qs) s' ∧ (0 ≤ s'.1 ∧ s'.1 < p) ∧ (s'.2.length : Int) = p ∧ ∀ g ∈ s'.2, 0 ≤ g ∧ g < (M.length : Int) := by
      match j, hy with
      | 0, hy =>
        obtain rfl := Option.some.inj hy
        exact ⟨(d, s.2), q2, rfl, StAt.keep ⟨q2, gs, rfl, S9h.1 _ _ (S9.2.tup eq2) eq2, cG Sh⟩ Sh.2 sti.1, ⟨d0, d1⟩, sM, sG⟩
      | 1, hy =>
        obtain rfl := Option.some.inj hy
        refine ⟨(s.1, s.2.take kn ++ [e] ++ s.2.drop (kn + 1)), q3, rfl, StAt.keep ⟨q3, r4, rfl, Sgh _ _ eq3, e4⟩ Sh.2 sti.1, sT, by rw [k1']; exact sM, fun g hg => ?_⟩
        rcases List.mem_append.mp hg with hg | hg
        · rcases List.mem_append.mp hg with hg | hg
          · exact sG g (List.mem_of_mem_take hg)
          · rw [List.mem_singleton.mp hg]; exact ⟨f0, by omega⟩
        · exact sG g (List.mem_of_mem_drop hg)
      | j + 2, hy => exact absurd hy (by simp)
    have Si := Sh.trans sti
    refine ⟨_, rfl, _, rfl, t, _, 1, _, rfl, rfl, SqT.of (cM Si).1, rfl, _, rfl, _, rfl, sl_listZ rfl (cM Si).2.1 fun r5 Hj sj hr5 => ?_⟩
    refine ⟨_, rfl, by show 1 ≤ sizeLine; decide, fun q6 hq6 => ?_⟩
    have Sjk : Same Hj (upd Hj q6 (.lst [.ref qs])) := same_new hq6
    have eq6 : upd Hj q6 (.lst [.ref qs]) q6 = some (.lst [.ref qs]) := upd_same
    generalize upd Hj q6 (.lst [.ref qs]) = Hk at *
    refine cat_lst (Sjk _ _ hr5) eq6 (by rw [List.length_take]; show _ + 1 ≤ 1000; omega) fun r7 Hl sl hr70 hr7 => ?_
    have Sil : Same Hi Hl := Same.trans sj (Same.trans Sjk sl)
    have Sl := Si.same Sil
    refine ⟨_, rfl, t, _, 1, _, rfl, rfl, SqT.of (cM Sl).1, rfl, _, rfl, _, _, rfl, rfl, _, rfl, ?_⟩
    dsimp only [tNoPart]
    refine sl_listDZ (n := an + 1) (by omega) (cM Sl).2.1 fun r8 Hm sm hr8 => ?_
    refine cat_lst (sm _ _ hr7) hr8 (by simp only [List.length_append, List.length_take, List.length_drop, List.length_cons, List.length_nil]; omega) fun r9 Hn sn hr90 hr9 => ?_
    have Sin : Same Hi Hn := Same.trans Sil (Same.trans sm sn)
    have Sn := Si.same Sin
    have hN : StsAt Hn (xs.take an ++ [.ref qs] ++ xs.drop (an + 1)) (M.take an ++ [s'] ++ M.drop (an + 1)) := (((cM Sn).2.2.take an).app (StsAt.one (hS'.same Sin))).app ((cM Sn).2.2.drop (an + 1))
    have lN : (M.take an ++ [s'] ++ M.drop (an + 1)).length = M.length := by simp only [List.length_append, List.length_take, List.length_drop, List.length_cons, List.length_nil]; omega
    have hON : OkM p ((M.take an ++ [s'] ++ M.drop (an + 1)).length : Int) (M.take an ++ [s'] ++ M.drop (an + 1)) := by rw [lN]; exact hO.swap an T1 T2 T3
    generalize eN : M.take an ++ [s'] ++ M.drop (an + 1) = N at *
    refine ⟨_, rfl, t, _, 2, _, rfl, rfl, SqT.of (cM Sn).1, rfl, by show 3 ≤ sizeLine; decide, fun tn htn => ?_⟩
    have t3 : Same Hn (upd Hn tn (.tup [.int p, .ref r9, .int st])) := same_new htn
    exact k _ tn N (Sn.same t3) ⟨r9, _, upd_same, t3 _ _ hr9, hN.same t3⟩ ⟨hP, hON, z0, by omega, by omega⟩ lN
end

theorem ints_at2 {ds : List Int} {j : Nat} {x : V} (h : (ds.map V.int)[j]? = some x) : ∃ d, ds[j]? = some d ∧ x = V.int d := by
  rw [List.getElem?_map] at h
  obtain ⟨d, h1, h2⟩ := Option.map_eq_some_iff.mp h
  exact ⟨d, h1, h2.symm⟩

/-- the number of a setting -/
def valD (p : Int) (ds : List Int) : Int := ds.foldr (fun d n => n * p + d) 0
theorem valD_snoc (p d : Int) : ∀ ds : List Int, valD p (ds ++ [d]) = valD p ds + d * p ^ ds.length
  | [] => by show 0 * p + d = 0 + d * p ^ 0; rw [Int.pow_zero]; omega
  | x :: ds => by
    show valD p (ds ++ [d]) * p + x = valD p ds * p + x + d * p ^ (ds.length + 1)
    rw [valD_snoc p d ds, Int.add_mul, Int.pow_succ, Int.mul_assoc]
    omega

abbrev sAll : Stmt := top 53
/-- the setting of n dials with the number j -/
def RowN (H : Hp) (v : V) (q n j : Nat) : Prop := ∃ a ds, v = .ref a ∧ H a = some (.tup (ds.map V.int)) ∧ Figs (q : Int) ds ∧ ds.length = n ∧ valD (q : Int) ds = (j : Int)
def RowsN (H : Hp) (xs : List V) (q n : Nat) : Prop := ∀ (j : Nat) v, xs[j]? = some v → RowN H v q n j
theorem RowN.same {H H' : Hp} {v : V} {q n j : Nat} (h : RowN H v q n j) (e : Same H H') : RowN H' v q n j := by
  obtain ⟨a, ds, rfl, h1, h2⟩ := h
  exact ⟨a, ds, rfl, e _ _ h1, h2⟩
theorem RowsN.same {H H' : Hp} {xs : List V} {q n : Nat} (h : RowsN H xs q n) (e : Same H H') : RowsN H' xs q n := fun j v hv => (h j v hv).same e
theorem RowN.lst {H : Hp} {v : V} {q n j : Nat} {r : Addr} {ys zs : List V} (x : RowN H v q n j) (h : H r = some (.lst ys)) : RowN (upd H r (.lst zs)) v q n j := by
  obtain ⟨a, ds, rfl, h1, h2⟩ := x
  exact ⟨a, ds, rfl, by rw [upd_ne (ne_of h1 h (by intro q; cases q))]; exact h1, h2⟩
def spAllN : Sp := fun vs H Q _ => ∃ (q n : Nat), vs = [.int (q : Int), .int (n : Int)] ∧ IsP (q : Int) ∧ n ≤ 100 ∧ (∀ i, i ≤ n → q ^ i ≤ 900) ∧ ∀ H' r xs, Same H H' → H r = none → H' r = some (.lst xs) → xs.length = q ^ n → RowsN H' xs q n → Q (.ref r) H'
theorem n_catA {P : Program} {w : World} {K : PySem.W.Frag} {mg : Str → Option Value} {base : Heap} {j : Nat} {X : Cx} {NS WS : List (Str × Nat)} {G : List Str} (h : Nm P w K mg base j X NS WS G) : OpR X (binaryOp .Add) (rCatA K) := by
  have q := h.eK
  subst q
  exact op_catA
section
variable {P : Program} {w : World} {K : PySem.W.Frag} {mg : Str → Option Value} {base : Heap} {aP : Addr} {tD : Tok} {C : Addr} {mc u : Value}
theorem scAll : FnScope ["_law_p", "_law_many", "_law_found", "_law_k", "_law_late", "_law_x", "_law_row"] ["_law_p", "_law_many"] (defScope sAll) := ⟨rfl, rfl, rfl, by decide +kernel, rfl, by decide +kernel, by decide +kernel⟩
theorem nmAll : nmB ["_law_p", "_law_many", "_law_found", "_law_k", "_law_late", "_law_x", "_law_row"] [("_law_p", 0), ("_law_many", 1), ("_law_found", 2), ("_law_k", 3), ("_law_late", 4), ("_law_x", 5)] ["range"] (defScope sAll) = true := by decide +kernel
theorem ok_alln {f : Addr} {fd : FuncData} (F : Fun K "_law_all_rows" "_law_all_rows" sAll f fd) (B : Bn mg) : FnOk P w K mg base CX0 1 f fd ["_law_p", "_law_many"] spAllN := by
  refine F.ok scAll (fun vs H Q E h => ?_) (fun cdv A outer s H vs Q E hr h => ?_)
  · obtain ⟨q, n, rfl, _⟩ := h
    rfl
  · obtain ⟨q, n, rfl, hP, hn, hpw, k⟩ := h
    have p2 := hP.two
    obtain ⟨b1, b2, b3, b4, b5, b6, b7, b8, b9, b10, b11⟩ := B
    refine' ex_mk ?d ?_
    case d =>
      have nm := nm_of (CX := CX0) (P := P) (w := w) (K := K) (mg := mg) (base := base) (outer := outer) (H := H) (E := E) nmAll hr
      refine' pss_cons ?s1 (pss_cons (n_for nm PassesOwn.never ?l1 ?g1 (pss_cons ?s2 (pss_cons (n_for nm PassesOwn.never ?l2 ?g2 (pss_one (ps_asg (pe_op op_cat ?e1 ?lc) ?g3))) (pss_one ?s3)))) (pss_one ?s4))
      case s1 => walk_at "ps"
      case l1 => walk_at "pi"
      case g1 => walk_at "pg"
      case s2 => walk_at "ps"
      case l2 => walk_at "pi"
      case g2 => walk_at "pg"
      case e1 => walk_at "pe"
      case lc =>
        refine' n_lc (own := [("_law_row", 6)]) (g := gName 6) (NS' := [("_law_x", 5), ("_law_row", 6)]) (WS' := [("_law_row", 6)]) (G' := []) (N := ["_law_p", "_law_many", "_law_found", "_law_k", "_law_late", "_law_x", "_law_row"]) (scD := defScope sAll) nm rfl rfl (by decide +kernel) (by decide +kernel) (pi_list ?li) (fun X' nm2 => ?lg) (fun X' nm2 => pe_op (n_catA nm2) ?q1 (pe_tup (pa_cons ?q2 pa_nil)))
        case li => walk_at "pe"
        case lg => walk_at "pg"
        case q1 => walk_at "pe"
        case q2 => walk_at "pe"
      case g3 => walk_at "pg"
      case s3 => walk_at "ps"
      case s4 => walk_at "ps"
    refine ⟨Nat.zero_le _, fun e0 he0 => ⟨by show 1 ≤ sizeLine; decide, fun r hr0 => ?_⟩⟩
    have s0 : Same H (upd (upd H e0 (.tup [])) r (.lst [.ref e0])) := same_add (same_new he0) hr0
    have hrN : H r = none := Same.free (same_new he0) hr0
    refine ⟨_, rfl, _, rfl, by omega, by omega, for_range (lo := 0) (n := ((n : Int)).toNat) (fun i σ H1 => ∃ (v3 v4 v5 v6 : Option V) (r : Addr) (xs : List V), σ = [some (.int (q : Int)), some (.int (n : Int)), some (.ref r), v3, v4, v5, v6] ∧ Same H H1 ∧ H r = none ∧ H1 r = some (.lst xs) ∧ RowsN H1 xs q i ∧ xs.length = q ^ i)
      ⟨none, none, none, none, r, [.ref e0], rfl, s0, hrN, upd_same, fun j v hv => ?_, rfl⟩ ?_ ?_⟩
    · match j, hv with
      | 0, hv =>
        obtain rfl := Option.some.inj hv
        exact ⟨e0, [], rfl, by rw [upd_ne (ne_of_none upd_same hr0)]; exact upd_same, fun d hd => absurd hd (by simp), rfl, rfl⟩
      | j + 1, hv => exact absurd hv (by simp)
    · rintro i σ H1 hi ⟨v3, v4, v5, v6, r1, xs, rfl, s1, hr1N, hr1, hrow, hxl⟩
      have hpi := hpw (i + 1) (by omega)
      have hpi2 : q ^ (i + 1) = q * q ^ i := by rw [Nat.pow_succ, Nat.mul_comm]
      refine ⟨Nat.zero_le _, fun l0 hl0 => ?_⟩
      refine ⟨_, rfl, _, rfl, by omega, by omega, for_range (lo := 0) (n := ((q : Int)).toNat) (fun c σ H2 => ∃ (v5 v6 : Option V) (l : Addr) (ys : List V), σ = [some (.int (q : Int)), some (.int (n : Int)), some (.ref r1), some (.int (0 + (i : Int))), some (.ref l), v5, v6] ∧ Same H1 H2 ∧ H1 l = none ∧ H2 l = some (.lst ys) ∧ RowsN H2 ys q (i + 1) ∧ ys.length = c * q ^ i)
        ⟨v5, v6, l0, [], rfl, same_new hl0, hl0, upd_same, fun j v hv => absurd hv (by simp), by simp⟩ ?_ ?_⟩
      · rintro c σ H2 hc ⟨w5, w6, l, ys, rfl, s2, hlN, hl, hys, hyl⟩
        have hcp : (c + 1) * q ^ i ≤ q * q ^ i := Nat.mul_le_mul_right _ (by omega)
        have hc1 : (c + 1) * q ^ i = c * q ^ i + q ^ i := Nat.succ_mul c _
        refine ⟨_, rfl, _, rfl, r1, rfl, ⟨_, SqL.of (s2 _ _ hr1)⟩, fun Dl hD => ?_⟩
        refine lcA (K := K) (J := Itl K r1) (xs := xs) (R := fun ix v H => RowN H v q (i + 1) (c * q ^ i + ix)) hD (small1000 (by omega)) (fun H' j e hj => ⟨xs, xs[j], SqL.of ((Same.trans s2 e) _ _ hr1), List.getElem?_eq_getElem hj⟩) (fun H' e => ⟨xs, SqL.of ((Same.trans s2 e) _ _ hr1), Nat.le_refl _⟩)
          (fun i x H' H2 e q => q.same e) (fun i x H' r ys zs e q => q.lst e) ?_ ?_ (fun v σ H A B hh q => hh _ _ q)
        · intro j e H3 v H4 Qk hx s3 hy kk
          obtain ⟨rfl, hy⟩ := hy
          have s13 := Same.trans s2 s3
          obtain ⟨a, ds, rfl, ha, hf, hdl, hdv⟩ := (hrow j v (hy xs (SqL.of (s13 _ _ hr1)))).same s13
          refine ⟨rfl, ?_⟩
          refine ⟨_, rfl, _, rfl, by show 1 ≤ sizeLine; decide, fun b hb => ?_⟩
          refine cat_any (xs := ds.map V.int) (ys := [.int (0 + (c : Int))]) ((same_new hb) _ _ ha) upd_same (by rw [List.length_map]; show ds.length + 1 ≤ 1000; omega) fun q H5 s5 hq => ?_
          refine kk (.ref q) H5 (Same.trans (same_new hb) s5) ⟨q, ds ++ [0 + (c : Int)], rfl, by rw [hq, List.map_append]; rfl, fun d hd => ?_, by simp [hdl], by rw [valD_snoc, hdv, hdl, Int.zero_add, Int.natCast_add, Int.natCast_mul, Int.natCast_pow, Int.add_comm]⟩
          rcases List.mem_append.mp hd with h | h
          · exact hf d h
          · rw [List.mem_singleton.mp h]; omega
        · intro zs H3 s3 hDl hzl hR
          have s13 := Same.trans s2 s3
          refine ⟨l, Dl, ys, zs, rfl, rfl, s3 _ _ hl, hDl, Nat.le_of_lt (small1000 (by omega)), fun w0 hq => ?_⟩
          refine ⟨_, _, w0, ys ++ zs, rfl, same_add s13 hq, Same.free s13 hq, upd_same, fun jx v hv => ?_, by rw [List.length_append, hyl, hzl, hxl, hc1]⟩
          by_cases cj : jx < ys.length
          · rw [List.getElem?_append_left cj] at hv
            exact (hys jx v hv).same (Same.trans s3 (same_new hq))
          · rw [List.getElem?_append_right (by omega)] at hv
            have := hR _ v hv
            rw [show c * q ^ i + (jx - ys.length) = jx by omega] at this
            exact this.same (same_new hq)
      · rintro σ H2 ⟨w5, w6, l, ys, rfl, s2, hlN, hl, hys, hyl⟩
        exact ⟨_, rfl, _, _, _, _, l, ys, rfl, Same.trans s1 s2, Same.free s1 hlN, hl, hys, by rw [hyl, hpi2, Int.toNat_natCast]⟩
    · rintro σ H1 ⟨v3, v4, v5, v6, r1, xs, rfl, s1, hr1N, hr1, hrow, hxl⟩
      rw [Int.toNat_natCast] at hrow hxl
      exact ⟨_, rfl, k H1 r1 xs s1 hr1N hr1 hxl hrow⟩
end

abbrev sMxd : Stmt := top 45
def spMxd : Sp := fun vs H Q _ => ∃ (b l s : Addr) (ks : List Int), vs = [.ref b, .ref s] ∧ Bag H b l ∧ H s = some (.lst (ks.map V.int)) ∧ s ≠ b ∧ ks.length ≤ 900 ∧
  ∀ H' r (js : List Int), Stp b l H H' → H r = none → H' r = some (.lst (js.map V.int)) → js.Perm ks → Q (.ref r) H'
theorem map_er : ∀ (l : List Int) (k : Nat), (l.map V.int).eraseIdx k = (l.eraseIdx k).map V.int
  | [], _ => rfl
  | _ :: _, 0 => rfl
  | a :: r, k + 1 => by
    show V.int a :: (r.map V.int).eraseIdx k = V.int a :: (r.eraseIdx k).map V.int
    rw [map_er r k]
theorem perm_er : ∀ (l : List Int) (k : Nat) (h : k < l.length), (l[k]'h :: l.eraseIdx k).Perm l
  | [], _, h => absurd h (Nat.not_lt_zero _)
  | a :: r, 0, _ => List.Perm.refl _
  | a :: r, k + 1, h => by
    show (r[k]'(Nat.lt_of_succ_lt_succ h) :: a :: r.eraseIdx k).Perm (a :: r)
    exact (List.Perm.swap a _ _).trans ((perm_er r k (Nat.lt_of_succ_lt_succ h)).cons a)
section
variable {P : Program} {w : World} {K : PySem.W.Frag} {mg : Str → Option Value} {base : Heap}
theorem scMxd : FnScope ["_law_bag_here", "_law_some", "_law_left", "_law_found"] ["_law_bag_here", "_law_some"] (defScope sMxd) := ⟨rfl, rfl, rfl, by decide +kernel, rfl, by decide +kernel, by decide +kernel⟩
theorem nmMxd : nmB ["_law_bag_here", "_law_some", "_law_left", "_law_found"] [("_law_bag_here", 0), ("_law_some", 1), ("_law_left", 2), ("_law_found", 3)] ["list", "_law_pull", "len"] (defScope sMxd) = true := by decide +kernel
theorem ok_mxd {f : Addr} {fd : FuncData} (F : Fun K "_law_mixed" "_law_mixed" sMxd f fd) (B : Bn mg) (D : Df P w K mg base 1 "_law_pull" ["_law_bag_here", "_law_many"] spPull) : FnOk P w K mg base CX0 2 f fd ["_law_bag_here", "_law_some"] spMxd := by
  refine F.ok scMxd (fun vs H Q E h => ?_) (fun cdv A outer s H vs Q E hr h => ?_)
  · obtain ⟨b, l, a, ks, rfl, _⟩ := h
    rfl
  · obtain ⟨b, l, a, ks, rfl, hB, ha, nab, hks, kk⟩ := h
    obtain ⟨b1, b2, b3, b4, b5, b6, b7, b8, b9, b10, b11⟩ := B
    refine' ex_mk ?d ?_
    case d =>
      have nm := nm_of (CX := CX0) (P := P) (w := w) (K := K) (mg := mg) (base := base) (outer := outer) (H := H) (E := E) nmMxd hr
      have hu := nm.room.units
      have hun := nm.room.un
      refine' pss_cons (ps_par (i := 2) (j := 3) rfl nm.nd rfl rfl (by decide) rfl rfl (pa_cons ?e1 (pa_cons (pe_lst pa_nil) pa_nil)) (by rfl))
        (pss_cons (ps_while PassesOwn.never (pt_cmpR (op_neD hu) ?w1 (pe_lst pa_nil) (nomark _)) (pss_one (ps_expr (pe_bm PySem.F.plainAttrs_list PySem.F.slot_list_append PySem.F.type_list_append mt_append ?r1 (pa_cons (pe_bm PySem.F.plainAttrs_list PySem.F.slot_list_pop PySem.F.type_list_pop mt_popAt ?r2 (pa_cons ?r3 pa_nil)) pa_nil))))) (pss_one ?ret))
      case e1 => walk_at "pe"
      case w1 => walk_at "pe"
      case r1 => walk_at "pe"
      case r2 => walk_at "pe"
      case r3 => walk_at "pe"
      case ret => walk_at "ps"
    refine ⟨_, rfl, a, _, rfl, .inl (SqL.of ha), fun ql hql => ⟨by show 0 ≤ sizeLine; decide, fun qf hqf => ⟨_, _, rfl, ?_⟩⟩⟩
    have s1 := same_new (o := .lst (ks.map V.int)) hql
    have s2 := same_new (o := .lst []) hqf
    have nlf : ql ≠ qf := ne_of_none upd_same hqf
    have hqfH : H qf = none := Same.free s1 hqf
    have s12 := Same.trans s1 s2
    refine ⟨fun m σ H2 => ∃ (ls fs : List Int), m = ls.length ∧ σ = [some (.ref b), some (.ref a), some (.ref ql), some (.ref qf)] ∧ Stp b l H H2 ∧ H2 ql = some (.lst (ls.map V.int)) ∧ H2 qf = some (.lst (fs.map V.int)) ∧ (fs ++ ls).Perm ks,
      ⟨_, ks, [], rfl, rfl, stp_same hB s12, s2 _ _ upd_same, upd_same, List.Perm.refl _⟩, ?_⟩
    rintro m σ H2 ⟨ls, fs, rfl, rfl, st, hl2, hf2, hp⟩
    have hpl := hp.length_eq
    rw [List.length_append] at hpl
    refine ⟨_, rfl, by show 0 ≤ sizeLine; decide, fun z hz => ?_⟩
    have s3 := same_new (o := .lst []) hz
    refine ne_li3 (ds := ls) (es := []) (s3 _ _ hl2) upd_same ⟨_, rfl, ?_⟩
    generalize upd H2 z (.lst []) = H3 at s3 ⊢
    have hl3 := s3 _ _ hl2
    have hf3 := s3 _ _ hf2
    have st3 : Stp b l H H3 := st.same s3
    have nlb : ql ≠ b := hB.ne hql
    have nfb : qf ≠ b := hB.ne hqfH
    by_cases c : ls = []
    · subst c
      refine Eq.mpr (if_neg (by simp)) ?_
      rw [List.append_nil] at hp
      exact ⟨_, rfl, kk _ qf fs st3 hqfH hf3 hp⟩
    · have hlp : 0 < ls.length := List.length_pos_iff.mpr c
      refine Eq.mpr (if_pos (by simp [c])) ?_
      refine ⟨fun σ' H4 => ∃ (ls' fs' : List Int), ls'.length < ls.length ∧ σ' = [some (.ref b), some (.ref a), some (.ref ql), some (.ref qf)] ∧ Stp b l H H4 ∧ H4 ql = some (.lst (ls'.map V.int)) ∧ H4 qf = some (.lst (fs'.map V.int)) ∧ (fs' ++ ls').Perm ks,
        fun σ' H4 ⟨ls', fs', h1, h2, h3, h4, h5, h6⟩ => ⟨_, h1, ls', fs', rfl, h2, h3, h4, h5, h6⟩, ?_⟩
      refine ⟨_, rfl, .inl ⟨rfl, _, SqL.of hf3⟩, _, rfl, .inl ⟨rfl, _, SqL.of hl3⟩, _, rfl, _, rfl, ql, _, rfl, .inl (SqL.of hl3), b, l, ((ls.length : Nat) : Int), by rw [List.length_map], st3.2, by omega, by omega, fun H4 d st4 d0 d1 => ?_⟩
      have hl4 := st4.1 _ _ nlb hl3
      have hf4 := st4.1 _ _ nfb hf3
      obtain ⟨k, rfl⟩ : ∃ k : Nat, d = (k : Int) := ⟨d.toNat, by omega⟩
      have hk : k < ls.length := by omega
      refine ⟨ql, _, (k : Int), k, _, rfl, rfl, hl4, by omega, by omega, ?_, by rw [List.getElem?_map, List.getElem?_eq_getElem hk]; rfl, ?_⟩
      · unfold seqIndex?
        rw [List.length_map]
        simp only [if_neg (show ¬ ((k : Int) < 0) by omega)]
        rw [if_pos (by simp; omega), Int.toNat_natCast]
      refine ⟨qf, _, _, rfl, rfl, by rw [upd_ne nlf.symm]; exact hf4, small1000 (by rw [List.length_map]; omega), ?_⟩
      refine ⟨ls.eraseIdx k, fs ++ [ls[k]'hk], by rw [List.length_eraseIdx_of_lt hk]; omega, rfl, ⟨fun c o hc e => ?_, ?_⟩, ?_, ?_, ?_⟩
      · rw [upd_ne (ne_of_none e hqfH), upd_ne (ne_of_none e hql)]
        exact st4.1 _ _ hc (st3.1 _ _ hc e)
      · obtain ⟨q1, q2, q3, q4, ns, w1, w2, w3⟩ := st4.2
        exact ⟨q1, q2, q3, q4, ns, by rw [upd_ne nfb.symm, upd_ne nlb.symm]; exact w1, by rw [upd_ne (hB.ne2 hqfH).symm, upd_ne (hB.ne2 hql).symm]; exact w2, w3⟩
      · rw [upd_ne nlf, upd_same, map_er]
      · rw [upd_same, List.map_append]; rfl
      · rw [List.append_assoc]
        exact (List.Perm.append_left fs (perm_er ls k hk)).trans hp
end

abbrev sDb : Stmt := top 55
def spDb : Sp := fun vs H Q _ => ∃ (b l t : Addr) (p : Int) (M : Mach) (st : Int), vs = [.ref b, .ref t] ∧ Bag H b l ∧ MAt H t p M st ∧ OkT p M st ∧ M.length ≤ 100 ∧
  ∀ H' y N sd os, Stp b l H H' → MAt H' y p N sd → OkT p N sd → DbOf M st N sd os → N.length ≤ 2 * M.length → Q (.ref y) H'
theorem db_ok {p : Int} {M N : Mach} {os : List Int} (hO : OkM p (M.length : Int) M) (hl : N.length = os.length) (hin : ∀ o ∈ os, 0 ≤ o ∧ o < (M.length : Int)) (hr : ∀ (j : Nat) s' o, N[j]? = some s' → os[j]? = some o → DbRow M os s' (M.getD o.toNat (0, []))) : OkM p (N.length : Int) N := by
  have key : ∀ s' ∈ N, ∃ s ∈ M, DbRow M os s' s := fun s' h => by
    obtain ⟨j, hj⟩ := List.getElem?_of_mem h
    have hj' := (List.getElem?_eq_some_iff.mp hj).1
    have ho : os[j]? = some (os[j]'(by omega)) := List.getElem?_eq_getElem _
    have h1 := hin _ (List.mem_of_getElem? ho)
    have hx : (os[j]'(by omega)).toNat < M.length := by omega
    refine ⟨_, ?_, hr j s' _ hj ho⟩
    rw [List.getD_eq_getElem?_getD, List.getElem?_eq_getElem hx]
    exact List.getElem_mem hx
  refine ⟨fun s' h => ?_, fun s' h => ?_, fun s' h g hg => ?_⟩
  · obtain ⟨s, hs, r⟩ := key s' h
    rw [r.turn]; exact hO.turn s hs
  · obtain ⟨s, hs, r⟩ := key s' h
    rw [r.len]; exact hO.many s hs
  · obtain ⟨s, hs, r⟩ := key s' h
    rw [hl]; exact r.inn g hg
section
variable {P : Program} {w : World} {K : PySem.W.Frag} {mg : Str → Option Value} {base : Heap}
def nDb : List Str := ["_law_bag_here", "_law_m", "_law_many", "_law_owners", "_law_rows", "_law_owner", "_law_turn", "_law_goals", "_law_k", "_law_goal"]
theorem scDb : FnScope nDb ["_law_bag_here", "_law_m"] (defScope sDb) := ⟨rfl, rfl, rfl, by decide +kernel, rfl, by decide +kernel, by decide +kernel⟩
theorem nmDb : nmB nDb [("_law_bag_here", 0), ("_law_m", 1), ("_law_many", 2), ("_law_owners", 3), ("_law_rows", 4), ("_law_owner", 5), ("_law_turn", 6), ("_law_goals", 7)] ["len", "_law_mixed", "list", "range", "tuple", "_law_of"] (defScope sDb) = true := by decide +kernel
set_option maxHeartbeats 0 in
theorem ok_db {f : Addr} {fd : FuncData} (F : Fun K "_law_doubled" "_law_doubled" sDb f fd) (B : Bn mg) (D1 : Df P w K mg base 1 "_law_pull" ["_law_bag_here", "_law_many"] spPull) (D6 : Df P w K mg base 2 "_law_of" ["_law_bag_here", "_law_some"] spOf) (DM : Df P w K mg base 2 "_law_mixed" ["_law_bag_here", "_law_some"] spMxd) : FnOk P w K mg base CX0 3 f fd ["_law_bag_here", "_law_m"] spDb := by
  refine F.ok scDb (fun vs H Q E h => ?_) (fun cdv A outer s H vs Q E hr h => ?_)
  · obtain ⟨b, l, t, p, M, st, rfl, _⟩ := h
    rfl
  · obtain ⟨b, l, t, p, M, st, rfl, hB, hA, hOk, hM100, k⟩ := h
    obtain ⟨b1, b2, b3, b4, b5, b6, b7, b8, b9, b10, b11⟩ := B
    refine' ex_mk ?d ?_
    case d =>
      have nm := nm_of (CX := CX0) (P := P) (w := w) (K := K) (mg := mg) (base := base) (outer := outer) (H := H) (E := E) nmDb hr
      refine' pss_cons ?c1 (pss_cons ?c2 (pss_cons ?c3 (pss_cons ?c4 (pss_one ?c5))))
      case c1 =>
        refine' ps_asg (n_len nm b1 ?g1 (pa_cons ?x1 pa_nil)) ?s1
        case g1 => walk_at "mem"
        case x1 => walk_at "peT"
        case s1 => walk_at "pg"
      case c2 =>
        refine' ps_asg (n_d nm DM (by decide) ?g2 (pa_cons ?x2 (pa_cons (pe_op op_cat (n_listRg nm b4 b6 ?g3 ?g4 ?x3) ?lc) pa_nil))) ?s2
        case g2 => walk_at "mem"
        case x2 => walk_at "pe"
        case g3 => walk_at "mem"
        case g4 => walk_at "mem"
        case x3 => walk_at "pe"
        case lc =>
          refine' n_lcI (own := [("_law_k", 8)]) (g := gName 8) (NS' := [("_law_bag_here", 0), ("_law_k", 8)]) (WS' := [("_law_k", 8)]) (G' := ["_law_pull"]) (N := nDb) (scD := defScope sDb) nm rfl rfl (by decide +kernel) (by decide +kernel) ?li (fun X' nm2 => ?lg) (fun X' nm2 => ?lt) (fun X' nm2 => ?le)
          case li => walk_at "pi"
          case lg => walk_at "pg"
          case lt => walk_at "pt"
          case le => walk_at "pe"
        case s2 => walk_at "pg"
      case c3 => walk_at "ps"
      case c4 =>
        refine' n_for nm PassesOwn.never ?li ?lg (pss_cons ?d1 (pss_one ?d2))
        case li => walk_at "pi"
        case lg => walk_at "pg"
        case d1 =>
          refine' ps_asg (n_ixL nm ?i1 ?i2 (fun _ _ => rfl)) ?s4
          case i1 => walk_at "peT"
          case i2 => walk_at "pe"
          case s4 => walk_at "pg"
        case d2 =>
          refine' ps_expr (pe_bm PySem.F.plainAttrs_list PySem.F.slot_list_append PySem.F.type_list_append mt_append ?m1 (pa_cons (pe_tup (pa_cons ?m2 (pa_cons (n_t (x := "tuple") nm b5 call_tuple_of PyProof.Rows.boot_tuple ?g5 (pa_cons ?lc2 pa_nil)) pa_nil))) pa_nil))
          case m1 => walk_at "pe"
          case m2 => walk_at "pe"
          case g5 => walk_at "mem"
          case lc2 =>
            refine' n_lcXC (own := [("_law_goal", 9)]) (g := gName 9) (NS' := [("_law_bag_here", 0), ("_law_owners", 3), ("_law_goal", 9)]) (WS' := [("_law_goal", 9)]) (G' := ["_law_of", "range", "len"]) (N := nDb) (scD := defScope sDb) nm rfl rfl (by decide +kernel) (by decide +kernel) (n_piT2 nm ?ti) (fun X' nm2 => ?lg) (fun X' nm2 eN eS => n_d nm2 D6 (by decide) ?q1 (pa_cons ?q2 (pa_cons ?q3 pa_nil)))
            case ti => walk_at "pe"
            case lg => walk_at "pg"
            case q1 => walk_at "mem"
            case q2 => walk_at "pe"
            case q3 =>
              refine' n_lcI (own := [("_law_k", 8)]) (g := gName 8) (NS' := [("_law_owners", 3), ("_law_goal", 9), ("_law_k", 8)]) (WS' := [("_law_k", 8)]) (G' := []) (N := nDb) nm2 eN eS (by decide +kernel) (by decide +kernel) ?li2 (fun X' nm3 => ?lg2) (fun X' nm3 => ?lt2) (fun X' nm3 => ?le2)
              case li2 => walk_at "pi"
              case lg2 => walk_at "pg"
              case lt2 => walk_at "pt"
              case le2 => walk_at "pe"
      case c5 =>
        refine' ps_ret (pe_tup (pa_cons ?r1 (pa_cons ?r2 (pa_cons (n_d nm D6 (by decide) ?g6 (pa_cons ?r3 (pa_cons ?lc3 pa_nil))) pa_nil))))
        case r1 => walk_at "peT"
        case r2 => walk_at "pe"
        case g6 => walk_at "mem"
        case r3 => walk_at "pe"
        case lc3 =>
          refine' n_lcI (own := [("_law_k", 8)]) (g := gName 8) (NS' := [("_law_m", 1), ("_law_owners", 3), ("_law_k", 8)]) (WS' := [("_law_k", 8)]) (G' := []) (N := nDb) (scD := defScope sDb) nm rfl rfl (by decide +kernel) (by decide +kernel) ?li3 (fun X' nm3 => ?lg3) (fun X' nm3 => pt_cmpR op_eq ?y1 (n_ixT nm3 ?y2 pe_int (fun _ _ => rfl)) (nomark _)) (fun X' nm3 => ?le3)
          case li3 => walk_at "pi"
          case lg3 => walk_at "pg"
          case y1 => walk_at "pe"
          case y2 => walk_at "pe"
          case le3 => walk_at "pe"
    obtain ⟨r, xs, ht, hr2, hM⟩ := id hA
    have hP := hOk.pr
    have hO := hOk.ok
    have hp2 := hP.two
    have hx := hM.1
    have z0 := hOk.st0
    have z1 := hOk.st1
    have nrb : r ≠ b := MAt.apart (t := t) hB hr2 hM
    refine ⟨_, rfl, t, _, 1, _, rfl, rfl, SqT.of ht, rfl, r, xs, rfl, .inl (SqL.of hr2), ?_⟩
    refine ⟨_, rfl, _, rfl, ((xs.length : Nat) : Int), rfl, RgOk.of_le (by decide) (by omega) (by decide) (by omega), fun q0 hq0 => ?_⟩
    rw [rgV_I]
    have s0 : Same H (upd H q0 (.lst ((rgI xs.length).map V.int))) := same_new hq0
    have e0 : upd H q0 (.lst ((rgI xs.length).map V.int)) q0 = some (.lst ((rgI xs.length).map V.int)) := upd_same
    generalize upd H q0 (.lst ((rgI xs.length).map V.int)) = H0 at s0 e0 ⊢
    have hB0 : Bag H0 b l := hB.same s0
    have nq0 : q0 ≠ b := hB.ne hq0
    refine ⟨_, rfl, ((xs.length : Nat) : Int), rfl, by omega, by omega, ?_⟩
    rw [Int.toNat_natCast]
    intro D hD
    refine lc_stepI (b := b) (l := l) (n := xs.length) hB0 hD (small1000 (by omega)) ?_ ?_ ?_
    · intro m H1 R hm s1 kk
      exact ⟨rfl, _, rfl, b, l, 2, rfl, s1.2, by decide, by decide, fun H2 d st _ _ => ⟨rfl, _, rfl, kk H2 _ st⟩⟩
    · intro m H1 Q1 hm s1 q
      exact ⟨_, rfl, by rw [Int.zero_add]; exact q⟩
    intro H2 ks s2 hD2 hkl hkm
    refine ⟨q0, D, _, _, rfl, rfl, s2.1 _ _ nq0 e0, hD2, by rw [List.length_map, List.length_map, rgI_len]; exact Nat.le_of_lt (small1000 (by omega)), fun w0 hw0 => ?_⟩
    rw [← List.map_append]
    have S2 : Stp b l H H2 := (stp_same hB s0).trans s2
    refine ⟨b, l, w0, rgI xs.length ++ ks, rfl, S2.2.new hw0, upd_same, S2.2.ne hw0, by rw [List.length_append, rgI_len]; omega, fun H3 r3 js st3 hr30 hr3 hperm => ?_⟩
    have S3 : Stp b l H H3 := (S2.add hw0).trans st3
    have nr3 : r3 ≠ b := (S2.2.new hw0).ne hr30
    have hjl : js.length ≤ 200 := by
      have := hperm.length_eq
      rw [List.length_append, rgI_len] at this
      omega
    have hjl2 : js.length ≤ 2 * M.length := by
      have := hperm.length_eq
      rw [List.length_append, rgI_len] at this
      omega
    have hjin : ∀ o ∈ js, 0 ≤ o ∧ o < (M.length : Int) := fun o ho => by
      rw [← hx]
      rcases List.mem_append.mp (hperm.mem_iff.mp ho) with h | h
      · exact mem_rgI.mp h
      · exact hkm o h
    have hjall : ∀ g : Int, 0 ≤ g → g < (M.length : Int) → ∃ m : Nat, m < js.length ∧ js[m]? = some g := fun g g0 g1 => by
      have h : g ∈ js := hperm.mem_iff.mpr (List.mem_append.mpr (.inl (mem_rgI.mpr ⟨g0, by rw [hx]; exact g1⟩)))
      obtain ⟨m, hm⟩ := List.getElem?_of_mem h
      exact ⟨m, (List.getElem?_eq_some_iff.mp hm).1, hm⟩
    have cM : ∀ {Hc : Hp}, Stp b l H Hc → Hc t = some (.tup [.int p, .ref r, .int st]) ∧ Hc r = some (.lst xs) ∧ StsAt Hc xs M := fun S => ⟨S.1 _ _ (hB.tup ht) ht, S.1 _ _ nrb hr2, hM.keep hB S.1⟩
    have jat : ∀ {m : Nat} {o : Int}, js[m]? = some o → atI (js.map V.int) (0 + (m : Int)) = some (.int o) := fun {m o} h => at_of (j := m) (by omega) (by rw [List.getElem?_map, h]; rfl)
    have filt : ∀ {g : Int} {Hx : Hp} {x8 : Addr} {Q : V → Hp → Prop}, 0 ≤ g → g < (M.length : Int) → Stp b l H Hx → Hx x8 = some (.lst ((((List.range js.length).filter fun m => decide (js[m]? = some g)).map fun x : Nat => (x : Int)).map V.int)) → x8 ≠ b → (∀ H8 (d : Int), Stp b l Hx H8 → 0 ≤ d → d < (js.length : Int) → js[d.toNat]? = some g → Q (.int d) H8) → spOf [.ref b, .ref x8] Hx Q E0 := fun {g Hx x8 Q} g0 g1 S h8 n8 q => by
      obtain ⟨m, hm, hmj⟩ := hjall g g0 g1
      have hmem : m ∈ (List.range js.length).filter fun m => decide (js[m]? = some g) := List.mem_filter.mpr ⟨List.mem_range.mpr hm, by rw [hmj]; exact decide_eq_true rfl⟩
      refine ⟨b, l, x8, _, rfl, S.2, h8, n8, ?_, ?_, fun H8 d x s8 hxx => ?_⟩
      · rw [List.length_map, List.length_map]; exact List.length_pos_of_mem hmem
      · rw [List.length_map, List.length_map]
        have := List.length_filter_le (fun m => decide (js[m]? = some g)) (List.range js.length)
        rw [List.length_range] at this
        omega
      · obtain ⟨z, hz, rfl⟩ := ints_at2 hxx
        obtain ⟨k', hk1, rfl⟩ := List.mem_map.mp (List.mem_of_getElem? hz)
        obtain ⟨hk2, hk3⟩ := List.mem_filter.mp hk1
        have hk2 := List.mem_range.mp hk2
        exact q H8 _ s8 (by omega) (by omega) (by rw [Int.toNat_natCast]; exact of_decide_eq_true hk3)
    refine ⟨Nat.zero_le _, fun rr hrr => ?_⟩
    have S4 : Stp b l H (upd H3 rr (.lst [])) := S3.add hrr
    have e4 : upd H3 rr (.lst []) rr = some (.lst []) := upd_same
    have h34 : Same H3 (upd H3 rr (.lst [])) := same_new hrr
    have hrr0 : H3 rr = none := hrr
    have nrr : rr ≠ b := S3.2.ne hrr
    generalize upd H3 rr (.lst []) = H4 at S4 e4 h34 ⊢
    have hr4 := h34 _ _ hr3
    have hrrH : H rr = none := S3.free hrr0
    try dsimp (config := { proj := false }) only [gName, List.set_cons_succ, List.set_cons_zero]
    refine ⟨_, rfl, r3, rfl, ⟨_, SqL.of hr4⟩, for_list (K := K) (a := r3) (xs := js.map V.int) (fun i σ H' => ∃ (v5 v6 v7 v8 v9 : Option V) (ys : List V) (N : Mach), σ = [some (.ref b), some (.ref t), some (.int ((xs.length : Nat) : Int)), some (.ref r3), some (.ref rr), v5, v6, v7, v8, v9] ∧ Stp b l H3 H' ∧ H' rr = some (.lst ys) ∧ StsAt H' ys N ∧ N.length = i ∧ ∀ (j : Nat) s' o, N[j]? = some s' → js[j]? = some o → DbRow M js s' (M.getD o.toNat (0, [])))
      ⟨none, none, none, none, none, [], [], rfl, stp_same S3.2 h34, e4, ⟨rfl, fun i x s h => by simp at h⟩, rfl, fun j s' o h => by simp at h⟩ (fun i σ H' _ ⟨_, _, _, _, _, _, _, _, s, _⟩ => SqL.of (s.1 _ _ nr3 hr3)) ?_ ?_⟩
    · rintro i x σ H' hxi ⟨v5, v6, v7, v8, v9, ys, N, rfl, sH, hrr', hN, hNl, hrow⟩
      obtain ⟨o, ho, rfl⟩ := ints_at2 hxi
      have hi : i < js.length := (List.getElem?_eq_some_iff.mp ho).1
      obtain ⟨o0, o1⟩ := hjin o (List.mem_of_getElem? ho)
      have S5 : Stp b l H H' := S3.trans sH
      obtain ⟨as, gs, ea, e1, e2, emem⟩ := st_get (cM S5).2.2 o0 o1
      have sT := hO.turn _ emem
      have sM := hO.many _ emem
      have sG := hO.goal _ emem
      refine ⟨_, rfl, t, _, 1, _, rfl, rfl, SqT.of (cM S5).1, rfl, _, rfl, r, xs, o, _, rfl, rfl, SqL.of (cM S5).2.1, ea, ?_⟩
      refine ⟨as, _, rfl, SqT.of e1, rfl, _, _, rfl, _, _, rfl, rfl, ?_⟩
      generalize es : M.getD o.toNat (0, []) = s at e1 e2 emem sT sM sG
      try dsimp (config := { proj := false }) only [gName, List.set_cons_succ, List.set_cons_zero]
      refine ⟨_, rfl, .inl ⟨rfl, _, SqL.of hrr'⟩, _, rfl, _, rfl, gs, rfl, ⟨_, SqT.of e2⟩, fun D2 hD2 => ?_⟩
      have hB5 := S5.2
      refine lc_stepS (b := b) (l := l) (xs := s.2.map V.int) (R := fun c d => 0 ≤ d ∧ d < (js.length : Int) ∧ ∀ g, s.2[c]? = some g → js[d.toNat]? = some g) hB5 (sj_T (K := K) fun H6 s6 => SqT.of (s6.1 _ _ (hB5.tup e2) e2)) hD2 (by rw [List.length_map]; exact small1000 (by omega)) ?_ ?_ gm_name
      · intro c x H6 Qk hxc s6 kk
        obtain ⟨g, hg, rfl⟩ := ints_at2 hxc
        obtain ⟨g0, g1⟩ := sG g (List.mem_of_getElem? hg)
        have S6 : Stp b l H H6 := S5.trans s6
        have hr6 : H6 r3 = some (.lst (js.map V.int)) := s6.1 _ _ nr3 (sH.1 _ _ nr3 hr3)
        refine ⟨rfl, _, rfl, _, rfl, r3, _, rfl, .inl (SqL.of hr6), ((js.length : Nat) : Int), by rw [List.length_map], by omega, by omega, ?_⟩
        rw [Int.toNat_natCast]
        intro D3 hD3
        refine lc_filt (pr := fun m => decide (js[m]? = some g)) hD3 (small1000 (by omega)) ?_ ?_ ?_
        · intro m H7 R hm s7 k7
          have hjm : js[m]? = some (js[m]'hm) := List.getElem?_eq_getElem hm
          refine ⟨rfl, _, rfl, _, rfl, r3, _, _, _, rfl, rfl, SqL.of (s7 _ _ hr6), jat hjm, _, rfl, rfl, _, rfl, ?_⟩
          rw [show decide (V.int (js[m]'hm) = V.int g) = decide (js[m]? = some g) from decide_eq_decide.mpr ⟨fun z => by rw [hjm, V.int.inj z], fun z => by rw [hjm] at z; rw [Option.some.inj z]⟩]
          exact k7 _ (fun _ _ e => e)
        · intro m H7 Q7 hm s7 q
          exact ⟨_, rfl, by rw [Int.zero_add]; exact q⟩
        · intro H7 s7 hD7
          refine filt g0 g1 (S6.same s7) hD7 (S6.2.ne hD3) fun H8 d s8 d0 d1 hd => ?_
          exact kk H8 d ((stp_same S6.2 s7).trans s8) ⟨d0, d1, fun g' hg' => by rw [hg] at hg'; rw [hd, hg']⟩
      · intro H6 ds s6 hD6 hdl hdR
        rw [List.length_map] at hdl
        refine ⟨D2, _, rfl, .inl ⟨SqL.of hD6, fun tt htt => ?_⟩⟩
        refine ⟨by show 2 ≤ sizeLine; decide, fun q hq => ?_⟩
        have s67 : Same H6 (upd (upd H6 tt (.tup (ds.map V.int))) q (.tup [.int s.1, .ref tt])) := same_add (same_new htt) hq
        have e7 : upd (upd H6 tt (.tup (ds.map V.int))) q (.tup [.int s.1, .ref tt]) q = some (.tup [.int s.1, .ref tt]) := upd_same
        have e8 : upd (upd H6 tt (.tup (ds.map V.int))) q (.tup [.int s.1, .ref tt]) tt = some (.tup (ds.map V.int)) := (same_new hq) _ _ upd_same
        generalize upd (upd H6 tt (.tup (ds.map V.int))) q (.tup [.int s.1, .ref tt]) = H7 at s67 e7 e8 ⊢
        have s7 : Stp b l H' H7 := s6.same s67
        have hr7 : H7 rr = some (.lst ys) := s7.1 _ _ nrr hrr'
        refine ⟨rr, _, _, rfl, rfl, hr7, by rw [hN.1, hNl]; exact small1000 (by omega), ?_⟩
        have hS7 : StAt H7 (.ref q) (s.1, ds) := ⟨q, tt, rfl, e7, e8⟩
        have hN7 : StsAt H7 ys N := hN.keep S5.2 s7.1
        have hrw : DbRow M js (s.1, ds) s := ⟨rfl, hdl, fun g hg => by
          obtain ⟨c, hc⟩ := List.getElem?_of_mem hg
          have := hdR c g hc
          exact ⟨this.1, this.2.1⟩, fun c g g' h1 h2 => (hdR c g' h1).2.2 g h2⟩
        refine ⟨_, _, _, _, _, ys ++ [.ref q], N ++ [(s.1, ds)], rfl, (sH.trans s7).put S3.2 hrr0, upd_same, (hN7.snoc hS7).lst hr7, by rw [List.length_append, hNl]; rfl, fun j s' o' h1 h2 => ?_⟩
        by_cases cj : j < N.length
        · rw [List.getElem?_append_left cj] at h1
          exact hrow j s' o' h1 h2
        · rw [List.getElem?_append_right (by omega)] at h1
          have ej : j - N.length = 0 := by
            rcases Nat.eq_zero_or_pos (j - N.length) with e | e
            · exact e
            · rw [List.getElem?_eq_none (by simp; omega)] at h1; cases h1
          rw [ej] at h1
          obtain rfl := Option.some.inj h1
          have : j = i := by omega
          subst this
          rw [ho] at h2
          obtain rfl := Option.some.inj h2
          rw [es]; exact hrw
    · rintro σ H' ⟨v5, v6, v7, v8, v9, ys, N, rfl, sH, hrr', hN, hNl, hrow⟩
      rw [List.length_map] at hNl
      have S5 : Stp b l H H' := S3.trans sH
      have hr6 : H' r3 = some (.lst (js.map V.int)) := sH.1 _ _ nr3 hr3
      refine ⟨_, rfl, t, _, 0, _, rfl, rfl, SqT.of (cM S5).1, rfl, _, rfl, _, rfl, _, rfl, r3, _, rfl, .inl (SqL.of hr6), ((js.length : Nat) : Int), by rw [List.length_map], by omega, by omega, ?_⟩
      rw [Int.toNat_natCast]
      intro D3 hD3
      refine lc_filt (pr := fun m => decide (js[m]? = some st)) hD3 (small1000 (by omega)) ?_ ?_ ?_
      · intro m H7 R hm s7 k7
        have hjm : js[m]? = some (js[m]'hm) := List.getElem?_eq_getElem hm
        refine ⟨rfl, _, rfl, _, rfl, r3, _, _, _, rfl, rfl, SqL.of (s7 _ _ hr6), jat hjm, _, rfl, t, _, 2, _, rfl, rfl, SqT.of (cM (S5.same s7)).1, rfl, rfl, _, rfl, ?_⟩
        rw [show decide (V.int (js[m]'hm) = V.int st) = decide (js[m]? = some st) from decide_eq_decide.mpr ⟨fun z => by rw [hjm, V.int.inj z], fun z => by rw [hjm] at z; rw [Option.some.inj z]⟩]
        exact k7 _ (fun _ _ e => e)
      · intro m H7 Q7 hm s7 q
        exact ⟨_, rfl, by rw [Int.zero_add]; exact q⟩
      · intro H7 s7 hD7
        refine filt z0 z1 (S5.same s7) hD7 (S5.2.ne hD3) fun H8 d s8 d0 d1 hd => ?_
        refine ⟨by show 3 ≤ sizeLine; decide, fun y hy => ?_⟩
        have s58 : Stp b l H' H8 := (stp_same S5.2 s7).trans s8
        have S8 : Stp b l H H8 := S5.trans s58
        have hNlen : N.length = js.length := hNl
        refine k _ y N d js (S8.add hy) ⟨rr, ys, upd_same, (same_new hy) _ _ (s58.1 _ _ nrr hrr'), (hN.keep S5.2 s58.1).same (same_new hy)⟩ ⟨hP, db_ok hO hNlen hjin hrow, d0, by omega, by omega⟩ ⟨hNlen, hjin, hrow, d0, hd⟩ (by rw [hNlen]; exact hjl2)
end

abbrev sWy : Stmt := top 38
/-- each step but the first tells a place before it -/
def BackW (ss : List (Int × Int)) : Prop := ∀ (i : Nat) s, ss[i]? = some s → 0 < i → 0 ≤ s.1 ∧ s.1 < (i : Int)
theorem wayR_fuel {ss : List (Int × Int)} (hb : BackW ss) : ∀ (n m : Nat) (z : Int), 0 ≤ z → z ≤ (n : Int) → z ≤ (m : Int) → z < (ss.length : Int) → wayR ss n z = wayR ss m z
  | 0, m, z, h0, h1, h2, h3 => by
    have e : z = 0 := by omega
    subst e
    cases m with
    | zero => rfl
    | succ m => unfold wayR; rw [if_neg (by omega)]
  | n + 1, 0, z, h0, h1, h2, h3 => by
    have e : z = 0 := by omega
    subst e
    unfold wayR
    rw [if_neg (by omega)]
  | n + 1, m + 1, z, h0, h1, h2, h3 => by
    unfold wayR
    by_cases c : 0 < z
    · rw [if_pos c, if_pos c]
      have hi : z.toNat < ss.length := by omega
      have e : ss[z.toNat]? = some ss[z.toNat] := List.getElem?_eq_getElem hi
      have b := hb z.toNat _ e (by omega)
      have g : ss.getD z.toNat (0, 0) = ss[z.toNat] := by rw [List.getD_eq_getElem?_getD, e]; rfl
      rw [g, wayR_fuel hb n m _ b.1 (by omega) (by omega) (by omega)]
    · rw [if_neg c, if_neg c]
theorem wayR_step {ss : List (Int × Int)} (hb : BackW ss) {z : Nat} {s : Int × Int} (hz : 0 < z) (e : ss[z]? = some s) : wayR ss z (z : Int) = s.2 :: wayR ss s.1.toNat s.1 := by
  have hi := (List.getElem?_eq_some_iff.mp e).1
  have b := hb z s e hz
  obtain ⟨n, rfl⟩ : ∃ n, z = n + 1 := ⟨z - 1, by omega⟩
  conv => lhs; unfold wayR
  rw [if_pos (by omega)]
  have g : ss.getD ((n + 1 : Nat) : Int).toNat (0, 0) = s := by rw [Int.toNat_natCast, List.getD_eq_getElem?_getD, e]; rfl
  rw [g, wayR_fuel hb n s.1.toNat s.1 b.1 (by omega) (by omega) (by omega)]
def spWy (K : PySem.W.Frag) : Sp := fun vs H Q _ => ∃ (s : Addr) (xs : List V) (ss : List (Int × Int)) (a : Nat), vs = [.ref s, .int (a : Int)] ∧ H s = some (.lst xs) ∧ PrsAt H xs ss ∧ a < ss.length ∧ BackW ss ∧ ss.length ≤ 950 ∧
  ∀ H' q, Same H H' → H q = none → H' q = some (.tup ((wayW ss a).map V.int)) → Q (.ref q) H'
section
variable {P : Program} {w : World} {K : PySem.W.Frag} {mg : Str → Option Value} {base : Heap}
theorem scWy : FnScope ["steps", "at", "figures", "figure"] ["steps", "at"] (defScope sWy) := ⟨rfl, rfl, rfl, by decide +kernel, rfl, by decide +kernel, by decide +kernel⟩
theorem nmWy : nmB ["steps", "at", "figures", "figure"] [("steps", 0), ("at", 1), ("figures", 2), ("figure", 3)] ["tuple"] (defScope sWy) = true := by decide +kernel
theorem ok_wy {f : Addr} {fd : FuncData} (F : Fun K "_way" "_way" sWy f fd) (B : Bn mg) : FnOk P w K mg base CX0 1 f fd ["steps", "at"] (spWy K) := by
  refine F.ok scWy (fun vs H Q E h => ?_) (fun cdv A outer s H vs Q E hr h => ?_)
  · obtain ⟨s, xs, ss, a, rfl, _⟩ := h
    rfl
  · obtain ⟨s, xs, ss, a, rfl, hs, hp, ha, hb, hl, k⟩ := h
    obtain ⟨b1, b2, b3, b4, b5, b6, b7, b8, b9, b10, b11⟩ := B
    refine' ex_mk ?d ?_
    case d =>
      have nm := nm_of (CX := CX0) (P := P) (w := w) (K := K) (mg := mg) (base := base) (outer := outer) (H := H) (E := E) nmWy hr
      refine' pss_cons ?s1 (pss_cons (ps_while PassesOwn.never ?wc (pss_cons (ps_asg ?w1 ?w2) (pss_one ?w3))) (pss_one (ps_ret (n_t (x := "tuple") nm b5 call_tuple_of PyProof.Rows.boot_tuple ?bg (pa_cons (pe_revL ?r1) pa_nil)))))
      case s1 => walk_at "ps"
      case wc => walk_at "pt"
      case w1 => walk_at "pe"
      case w2 => walk_at "pg"
      case w3 => walk_at "ps"
      case bg => walk_at "mem"
      case r1 => walk_at "pe"
    refine ⟨by show 0 ≤ sizeLine; decide, fun q hq0 => ?_⟩
    have s0 := same_new (o := .lst []) hq0
    have hq1 : upd H q (.lst []) q = some (.lst []) := upd_same
    generalize upd H q (.lst []) = H1 at s0 hq1 ⊢
    refine ⟨fun m σ H' => ∃ (z : Nat) (ds : List Int) (v3 : Option V), m = z ∧ z ≤ a ∧ σ = [some (.ref s), some (.int (z : Int)), some (.ref q), v3] ∧ Same H H' ∧ H' q = some (.lst (ds.map V.int)) ∧ ds ++ wayR ss z (z : Int) = wayR ss a (a : Int) ∧ ds.length + z ≤ a,
      ⟨a, a, [], none, rfl, Nat.le_refl _, rfl, s0, hq1, rfl, by simp⟩, ?_⟩
    rintro m σ H' ⟨z, ds, v3, rfl, hz, rfl, s1, hq, hw, hd⟩
    refine ⟨_, rfl, _, _, rfl, rfl, _, rfl, ?_⟩
    by_cases c : (0 : Int) < (m : Int)
    · refine Eq.mpr (if_pos (decide_eq_true c)) ?_
      have hm : 0 < m := by omega
      have hml : m < ss.length := by omega
      have em : ss[m]? = some ss[m] := List.getElem?_eq_getElem hml
      generalize ss[m] = g at em
      have hw2 := wayR_step hb hm em
      have hbk := hb m g em hm
      have hp' : PrsAt H' xs ss := KlsAt.same hp s1
      have hxl : m < xs.length := by
        have := hp'.1
        rw [List.length_map] at this
        omega
      obtain ⟨t, et, ht⟩ := hp'.2 m _ [g.1, g.2] (List.getElem?_eq_getElem hxl) (by rw [List.getElem?_map, em]; rfl)
      have eat : atI xs (m : Int) = some (.ref t) := atI_nat (by rw [List.getElem?_eq_getElem hxl, et])
      refine ⟨fun σ' H3 => ∃ (z : Nat) (ds : List Int) (v3 : Option V), z < m ∧ σ' = [some (.ref s), some (.int (z : Int)), some (.ref q), v3] ∧ Same H H3 ∧ H3 q = some (.lst (ds.map V.int)) ∧ ds ++ wayR ss z (z : Int) = wayR ss a (a : Int) ∧ ds.length + z ≤ a,
        fun σ' H3 ⟨z, ds, v3, z1, z2, z3, z4, z5, z6⟩ => ⟨z, z1, z, ds, v3, rfl, by omega, z2, z3, z4, z5, z6⟩, ?_⟩
      refine ⟨_, rfl, _, rfl, s, xs, _, _, rfl, rfl, SqL.of (s1 _ _ hs), eat, t, _, rfl, SqT.of ht, rfl, _, _, rfl, _, _, rfl, rfl, ?_⟩
      refine ⟨_, rfl, .inl ⟨rfl, _, SqL.of hq⟩, _, rfl, q, _, _, rfl, rfl, hq, ?_, ?_⟩
      · rw [List.length_map]; exact small1000 (by omega)
      · have ez : ((g.1.toNat : Nat) : Int) = g.1 := Int.toNat_of_nonneg hbk.1
        refine ⟨g.1.toNat, ds ++ [g.2], _, by omega, by rw [ez]; rfl, same_put s1 hq0, ?_, ?_, ?_⟩
        · rw [upd_same, List.map_append]; rfl
        · rw [← hw, hw2, List.append_assoc, ez]; rfl
        · rw [List.length_append]
          show ds.length + 1 + g.1.toNat ≤ a
          omega
    · refine Eq.mpr (if_neg (by simpa using c)) ?_
      have e0 : m = 0 := by omega
      subst e0
      have hw' : ds = wayR ss a (a : Int) := by
        have e : wayR ss 0 ((0 : Nat) : Int) = [] := rfl
        rw [e, List.append_nil] at hw
        exact hw
      refine ⟨_, rfl, q, _, rfl, SqL.of hq, fun r hr => ?_⟩
      have s2 := same_new (o := .lst (ds.map V.int).reverse) hr
      refine ⟨r, _, rfl, .inl ⟨SqL.of upd_same, fun l hl => ?_⟩⟩
      refine k _ l (Same.trans s1 (Same.trans s2 (same_new hl))) (Same.free (Same.trans s1 s2) hl) ?_
      rw [upd_same, ← List.map_reverse, hw']
      rfl
end

/-! the search for a first difference: what it finds -/
def nW (p : Int) (u : List Int) : Int := u.foldl (fun v x => v * p + x) 1
theorem nW_snoc (p : Int) (u : List Int) (x : Int) : nW p (u ++ [x]) = nW p u * p + x := by
  unfold nW
  rw [List.foldl_append]; rfl
theorem snoc_ind {P : List Int → Prop} (h0 : P []) (hs : ∀ u x, P u → P (u ++ [x])) : ∀ u, P u := by
  have key : ∀ n (u : List Int), u.length = n → P u := by
    intro n
    induction n with
    | zero => intro u h; rw [List.length_eq_zero_iff.mp h]; exact h0
    | succ n ih =>
      intro u h
      have hne : u ≠ [] := fun e => by rw [e] at h; cases h
      rw [← List.dropLast_concat_getLast hne]
      exact hs _ _ (ih _ (by rw [List.length_dropLast, h]; rfl))
  exact fun u => key _ u rfl
theorem figs_snoc {p : Int} {u : List Int} {x : Int} : Figs p (u ++ [x]) ↔ Figs p u ∧ 0 ≤ x ∧ x < p := by
  constructor
  · exact fun h => ⟨fun d hd => h d (List.mem_append_left _ hd), h x (List.mem_append_right _ (List.mem_singleton.mpr rfl))⟩
  · rintro ⟨h1, h2⟩ d hd
    rcases List.mem_append.mp hd with z | z
    · exact h1 d z
    · rw [List.mem_singleton.mp z]; exact h2
theorem nW_pos {p : Int} (hp : 2 ≤ p) : ∀ u, Figs p u → 1 ≤ nW p u := by
  refine snoc_ind (fun _ => by show (1 : Int) ≤ 1; decide) fun u x ih h => ?_
  have h2 := figs_snoc.mp h
  have := ih h2.1
  rw [nW_snoc]
  have : 1 * 2 ≤ nW p u * p := Int.mul_le_mul this hp (by decide) (by omega)
  omega
theorem wayR_app {ss : List (Int × Int)} (hb : BackW ss) (t : List (Int × Int)) : ∀ (n : Nat) (z : Int), 0 ≤ z → z < (ss.length : Int) → wayR (ss ++ t) n z = wayR ss n z
  | 0, z, _, _ => rfl
  | n + 1, z, h0, h1 => by
    unfold wayR
    by_cases c : 0 < z
    · have hi : z.toNat < ss.length := by omega
      have e : ss[z.toNat]? = some ss[z.toNat] := List.getElem?_eq_getElem hi
      have b := hb z.toNat _ e (by omega)
      have g : ss.getD z.toNat (0, 0) = ss[z.toNat] := by rw [List.getD_eq_getElem?_getD, e]; rfl
      have g2 : (ss ++ t).getD z.toNat (0, 0) = ss[z.toNat] := by rw [List.getD_eq_getElem?_getD, List.getElem?_append_left hi, e]; rfl
      rw [if_pos c, if_pos c, g, g2, wayR_app hb t n _ b.1 (by omega)]
    · rw [if_neg c, if_neg c]
theorem wayW_app {ss : List (Int × Int)} (hb : BackW ss) (t : List (Int × Int)) {k : Nat} (h : k < ss.length) : wayW (ss ++ t) k = wayW ss k := by
  unfold wayW
  rw [wayR_app hb t k (k : Int) (by omega) (by omega)]
theorem wayW_new {ss : List (Int × Int)} (hb : BackW ss) {a : Nat} {f : Int} (ha : a < ss.length) : wayW (ss ++ [((a : Int), f)]) ss.length = wayW ss a ++ [f] := by
  have hb2 : BackW (ss ++ [((a : Int), f)]) := fun i s hs hi => by
    by_cases c : i < ss.length
    · rw [List.getElem?_append_left c] at hs
      exact hb i s hs hi
    · rw [List.getElem?_append_right (by omega)] at hs
      have e : i = ss.length := by
        have := (List.getElem?_eq_some_iff.mp hs).1
        simp at this
        omega
      subst e
      rw [Nat.sub_self] at hs
      cases hs
      exact ⟨Int.natCast_nonneg _, Int.ofNat_lt.mpr ha⟩
  have e : (ss ++ [((a : Int), f)])[ss.length]? = some ((a : Int), f) := by rw [List.getElem?_append_right (Nat.le_refl _), Nat.sub_self]; rfl
  unfold wayW
  rw [wayR_step hb2 (by omega) e, List.reverse_cons]
  show (wayR (ss ++ [((a : Int), f)]) ((a : Int)).toNat (a : Int)).reverse ++ [f] = _
  rw [Int.toNat_natCast, wayR_app hb _ a (a : Int) (by omega) (by omega)]
abbrev SeW := List KeyL × List (Int × Int)
def prW (M N : Mach) (st sd : Int) (u : List Int) : KeyL := [runM M st u, runM N sd u]
structure BfW (p : Int) (M N : Mach) (st sd : Int) (L : Int) (q : SeW) : Prop where
  ok : StW q
  nd : q.1.Nodup
  hd : q.1[0]? = some [st, sd]
  way : ∀ (i : Nat) c, q.1[i]? = some c → c = prW M N st sd (wayW q.2 i) ∧ Figs p (wayW q.2 i)
  mono : ∀ i k, i < k → k < q.1.length → nW p (wayW q.2 i) < nW p (wayW q.2 k)
  bound : ∀ k, k < q.1.length → nW p (wayW q.2 k) < L
def ExW (q q' : SeW) : Prop := q.2.length ≤ q'.2.length ∧ (∀ (k : Nat) c, q.1[k]? = some c → q'.1[k]? = some c) ∧ ∀ k, k < q.2.length → wayW q'.2 k = wayW q.2 k
theorem ExW.trans {a b c : SeW} (h : ExW a b) (g : ExW b c) : ExW a c := ⟨Nat.le_trans h.1 g.1, fun k x e => g.2.1 k x (h.2.1 k x e), fun k hk => by rw [g.2.2 k (Nat.lt_of_lt_of_le hk h.1), h.2.2 k hk]⟩
theorem BfW.step {p : Int} {M N : Mach} {st sd : Int} {q : SeW} {a f : Nat} {c : KeyL} (h : BfW p M N st sd (nW p (wayW q.2 a) * p + (f : Int)) q) (ec : q.1[a]? = some c) (hf : (f : Int) < p) :
    BfW p M N st sd (nW p (wayW q.2 a) * p + (f : Int) + 1) (stepW (a : Int) f [goM M (c.getD 0 0) (f : Int), goM N (c.getD 1 0) (f : Int)] q) ∧ ExW q (stepW (a : Int) f [goM M (c.getD 0 0) (f : Int), goM N (c.getD 1 0) (f : Int)] q) ∧
    ∃ k, (stepW (a : Int) f [goM M (c.getD 0 0) (f : Int), goM N (c.getD 1 0) (f : Int)] q).1[k]? = some [goM M (c.getD 0 0) (f : Int), goM N (c.getD 1 0) (f : Int)] ∧ nW p (wayW (stepW (a : Int) f [goM M (c.getD 0 0) (f : Int), goM N (c.getD 1 0) (f : Int)] q).2 k) ≤ nW p (wayW q.2 a) * p + (f : Int) := by
  have hl := h.ok.len
  have hal := (List.getElem?_eq_some_iff.mp ec).1
  obtain ⟨cw, cF⟩ := h.way a c ec
  generalize hg : ([goM M (c.getD 0 0) (f : Int), goM N (c.getD 1 0) (f : Int)] : KeyL) = g
  have egw : g = prW M N st sd (wayW q.2 a ++ [(f : Int)]) := by
    rw [← hg, cw]
    unfold prW
    rw [runM_snoc, runM_snoc]; rfl
  unfold stepW
  by_cases m : g ∈ q.1
  · rw [if_pos m]
    obtain ⟨k, hk⟩ := List.getElem?_of_mem m
    have hkl := (List.getElem?_eq_some_iff.mp hk).1
    refine ⟨⟨h.ok, h.nd, h.hd, h.way, h.mono, fun k hk => by have := h.bound k hk; omega⟩, ⟨Nat.le_refl _, fun _ _ e => e, fun _ _ => rfl⟩, k, hk, Int.le_of_lt (h.bound k hkl)⟩
  · rw [if_neg m]
    have wN : wayW (q.2 ++ [((a : Int), (f : Int))]) q.2.length = wayW q.2 a ++ [(f : Int)] := wayW_new h.ok.back (by omega)
    have wO : ∀ k, k < q.2.length → wayW (q.2 ++ [((a : Int), (f : Int))]) k = wayW q.2 k := fun k hk => wayW_app h.ok.back _ hk
    have hs := (stepW_ok (f := f) (g := g) h.ok hal).1
    unfold stepW at hs
    rw [if_neg m] at hs
    have hnd := stepW_nodup (a := (a : Int)) (f := f) (g := g) h.nd
    unfold stepW at hnd
    rw [if_neg m] at hnd
    refine ⟨⟨hs, hnd, ?_, fun i c' e => ?_, fun i k h1 h2 => ?_, fun k hk => ?_⟩, ⟨by simp, fun k c' e => ?_, wO⟩, q.1.length, ?_, ?_⟩
    · show (q.1 ++ [g])[0]? = _
      rw [List.getElem?_append_left (by omega)]; exact h.hd
    · show _ = prW M N st sd (wayW (q.2 ++ [((a : Int), (f : Int))]) i) ∧ Figs p (wayW (q.2 ++ [((a : Int), (f : Int))]) i)
      replace e : (q.1 ++ [g])[i]? = some c' := e
      by_cases ci : i < q.1.length
      · rw [List.getElem?_append_left ci] at e
        rw [wO i (by omega)]
        exact h.way i c' e
      · have ei : i = q.1.length := by
          have := (List.getElem?_eq_some_iff.mp e).1
          simp at this
          omega
        rw [ei, List.getElem?_append_right (Nat.le_refl _), Nat.sub_self] at e
        obtain rfl := Option.some.inj e
        rw [ei, hl, wN]
        exact ⟨egw, figs_snoc.mpr ⟨cF, by omega, hf⟩⟩
    · show nW p (wayW (q.2 ++ [((a : Int), (f : Int))]) i) < nW p (wayW (q.2 ++ [((a : Int), (f : Int))]) k)
      replace h2 : k < (q.1 ++ [g]).length := h2
      rw [List.length_append] at h2
      replace h2 : k < q.1.length + 1 := h2
      by_cases ck : k < q.1.length
      · rw [wO i (by omega), wO k (by omega)]
        exact h.mono i k h1 ck
      · have ei : k = q.1.length := by omega
        rw [ei, wO i (by omega), hl, wN, nW_snoc]
        exact h.bound i (by omega)
    · show nW p (wayW (q.2 ++ [((a : Int), (f : Int))]) k) < _
      replace hk : k < (q.1 ++ [g]).length := hk
      rw [List.length_append] at hk
      replace hk : k < q.1.length + 1 := hk
      by_cases ck : k < q.1.length
      · rw [wO k (by omega)]
        have := h.bound k ck
        omega
      · have ei : k = q.1.length := by omega
        rw [ei, hl, wN, nW_snoc]
        omega
    · show (q.1 ++ [g])[k]? = some c'
      rw [List.getElem?_append_left (List.getElem?_eq_some_iff.mp e).1]; exact e
    · show (q.1 ++ [g])[q.1.length]? = some g
      rw [List.getElem?_append_right (Nat.le_refl _), Nat.sub_self]; rfl
    · show nW p (wayW (q.2 ++ [((a : Int), (f : Int))]) q.1.length) ≤ _
      rw [hl, wN, nW_snoc]
      exact Int.le_refl _
theorem BfW.weak {p : Int} {M N : Mach} {st sd L L' : Int} {q : SeW} (h : BfW p M N st sd L q) (e : L ≤ L') : BfW p M N st sd L' q := ⟨h.ok, h.nd, h.hd, h.way, h.mono, fun k hk => Int.lt_of_lt_of_le (h.bound k hk) e⟩
theorem BfW.row {p : Int} {M N : Mach} {st sd : Int} {a : Nat} {c : KeyL} : ∀ (gs : List KeyL) (f : Nat) (q : SeW), BfW p M N st sd (nW p (wayW q.2 a) * p + (f : Int)) q → q.1[a]? = some c → ((f + gs.length : Nat) : Int) ≤ p → (∀ (x : Nat) g, gs[x]? = some g → g = [goM M (c.getD 0 0) ((f + x : Nat) : Int), goM N (c.getD 1 0) ((f + x : Nat) : Int)]) →
    BfW p M N st sd (nW p (wayW q.2 a) * p + ((f + gs.length : Nat) : Int)) (rowW (a : Int) f gs q) ∧ ExW q (rowW (a : Int) f gs q) ∧ ∀ (x : Nat) g, gs[x]? = some g → ∃ k, (rowW (a : Int) f gs q).1[k]? = some g ∧ nW p (wayW (rowW (a : Int) f gs q).2 k) ≤ nW p (wayW q.2 a) * p + ((f + x : Nat) : Int)
  | [], f, q, h, ec, hp, hg => ⟨h, ⟨Nat.le_refl _, fun _ _ e => e, fun _ _ => rfl⟩, fun x g e => by simp at e⟩
  | g :: gs, f, q, h, ec, hp, hg => by
    have hal := (List.getElem?_eq_some_iff.mp ec).1
    have hl := h.ok.len
    have eg : g = [goM M (c.getD 0 0) (f : Int), goM N (c.getD 1 0) (f : Int)] := hg 0 g rfl
    rw [List.length_cons] at hp
    have s1 := h.step ec (by omega)
    rw [← eg] at s1
    obtain ⟨b1, x1, k1, e1, n1⟩ := s1
    have ha1 : wayW (stepW (a : Int) f g q).2 a = wayW q.2 a := x1.2.2 a (by omega)
    have s2 := BfW.row gs (f + 1) (stepW (a : Int) f g q) (by rw [ha1]; exact b1.weak (by omega)) (x1.2.1 a c ec) (by rw [show f + 1 + gs.length = f + (gs.length + 1) by omega]; exact hp) (fun x g' e => by
      have := hg (x + 1) g' e
      rw [show f + 1 + x = f + (x + 1) by omega]; exact this)
    rw [ha1] at s2
    obtain ⟨b2, x2, r2⟩ := s2
    have el : f + 1 + gs.length = f + (g :: gs).length := by rw [List.length_cons]; omega
    rw [el] at b2
    refine ⟨b2, x1.trans x2, fun x g' e => ?_⟩
    match x, e with
    | 0, e =>
      obtain rfl := Option.some.inj e
      have hk := (List.getElem?_eq_some_iff.mp e1).1
      have hl1 := b1.ok.len
      exact ⟨k1, x2.2.1 k1 _ e1, by rw [show rowW (a : Int) f (g :: gs) q = rowW (a : Int) (f + 1) gs (stepW (a : Int) f g q) from rfl, x2.2.2 k1 (by omega)]; exact n1⟩
    | x + 1, e =>
      obtain ⟨k, h1, h2⟩ := r2 x g' e
      exact ⟨k, h1, by rw [show f + (x + 1) = f + 1 + x by omega]; exact h2⟩
/-- where two machines turn apart behind a row -/
def ApartW (M N : Mach) (st sd : Int) (u : List Int) : Prop := turnM M (runM M st u) ≠ turnM N (runM N sd u)
/-- the least way behind which they turn apart -/
def LeastW (p : Int) (M N : Mach) (st sd : Int) (u : List Int) : Prop := Figs p u ∧ ApartW M N st sd u ∧ ∀ v, Figs p v → ApartW M N st sd v → nW p u ≤ nW p v
structure DoW (p : Int) (M N : Mach) (a : Nat) (q : SeW) : Prop where
  same : ∀ i, i < a → ∀ c, q.1[i]? = some c → turnM M (c.getD 0 0) = turnM N (c.getD 1 0)
  next : ∀ i, i < a → ∀ c, q.1[i]? = some c → ∀ x : Nat, (x : Int) < p → ∃ k, q.1[k]? = some [goM M (c.getD 0 0) (x : Int), goM N (c.getD 1 0) (x : Int)] ∧ nW p (wayW q.2 k) ≤ nW p (wayW q.2 i) * p + (x : Int)
theorem run_way {p : Int} (hp : 2 ≤ p) {M N : Mach} {st sd L : Int} {a : Nat} {q : SeW} (h : BfW p M N st sd L q) (d : DoW p M N a q) : ∀ v, Figs p v → (∃ i, q.1[i]? = some (prW M N st sd v) ∧ nW p (wayW q.2 i) ≤ nW p v) ∨ (a < q.1.length ∧ nW p (wayW q.2 a) < nW p v) := by
  have h0 : 0 < q.1.length := (List.getElem?_eq_some_iff.mp h.hd).1
  refine snoc_ind (fun _ => .inl ⟨0, h.hd, Int.le_refl _⟩) fun u x ih hF => ?_
  have h2 := figs_snoc.mp hF
  have hu1 := nW_pos hp u h2.1
  have e1 : 1 * 2 ≤ nW p u * p := Int.mul_le_mul hu1 hp (by decide) (by omega)
  have e2 : nW p u * 2 ≤ nW p u * p := Int.mul_le_mul_of_nonneg_left hp (by omega)
  rw [nW_snoc]
  rcases ih h2.1 with ⟨i, hi, hn⟩ | ⟨ha, hn⟩
  · by_cases c : i < a
    · obtain ⟨k, hk, hkn⟩ := d.next i c _ hi x.toNat (by omega)
      rw [Int.toNat_of_nonneg h2.2.1] at hk hkn
      refine .inl ⟨k, ?_, ?_⟩
      · rw [hk]; unfold prW; rw [runM_snoc, runM_snoc]; rfl
      · have : nW p (wayW q.2 i) * p ≤ nW p u * p := Int.mul_le_mul_of_nonneg_right hn (by omega)
        omega
    · have hil := (List.getElem?_eq_some_iff.mp hi).1
      refine .inr ⟨by omega, ?_⟩
      have : nW p (wayW q.2 a) ≤ nW p (wayW q.2 i) := by
        by_cases e : a = i
        · rw [e]; exact Int.le_refl _
        · exact Int.le_of_lt (h.mono a i (by omega) hil)
      omega
  · exact .inr ⟨ha, by omega⟩
theorem wayR_lenB (ss : List (Int × Int)) : ∀ (n : Nat) (z : Int), (wayR ss n z).length ≤ n
  | 0, z => Nat.le_refl _
  | n + 1, z => by
    unfold wayR
    split
    · rw [List.length_cons]
      exact Nat.succ_le_succ (wayR_lenB ss n _)
    · exact Nat.zero_le _
theorem run_spec {p : Int} (hp : 2 ≤ p) {M N : Mach} {st sd : Int} : ∀ (n a : Nat) (q : SeW) (R : Option (List Int)) (L : Int), BfW p M N st sd L q → (a < q.1.length → L ≤ nW p (wayW q.2 a) * p) → DoW p M N a q → a ≤ q.1.length → runW p.toNat M N n a q = some R →
    (R = none → ∀ v, Figs p v → ¬ ApartW M N st sd v) ∧ ∀ ds, R = some ds → ∃ u, ds = u ++ [0] ∧ LeastW p M N st sd u ∧ ∃ cs : List KeyL, cs.Nodup ∧ (∀ c ∈ cs, ∃ v, Figs p v ∧ c = prW M N st sd v) ∧ u.length < cs.length
  | 0, a, q, R, L, h, hL, d, ha, hr => by cases hr
  | n + 1, a, q, R, L, h, hL, d, ha, hr => by
    have hw := run_way hp h d
    unfold runW at hr
    cases e : q.1[a]? with
    | none =>
      rw [e] at hr
      obtain rfl := Option.some.inj hr
      have hal : q.1.length ≤ a := by
        rcases Nat.lt_or_ge a q.1.length with z | z
        · rw [List.getElem?_eq_getElem z] at e; cases e
        · exact z
      refine ⟨fun _ v hv => ?_, fun ds e => (by cases e)⟩
      rcases hw v hv with ⟨i, hi, _⟩ | ⟨z, _⟩
      · have hil := (List.getElem?_eq_some_iff.mp hi).1
        exact fun z => z (d.same i (by omega) _ hi)
      · omega
    | some c =>
      rw [e] at hr
      dsimp only at hr
      have hal := (List.getElem?_eq_some_iff.mp e).1
      obtain ⟨cw, cF⟩ := h.way a c e
      by_cases ct : turnM M (c.getD 0 0) = turnM N (c.getD 1 0)
      · rw [if_pos ct] at hr
        by_cases c8 : q.1.length ≤ 800
        · rw [if_pos c8] at hr
          have hlen : (sucW p.toNat M N c).length = p.toNat := by unfold sucW; rw [List.length_map, List.length_range]
          have hget : ∀ x : Nat, x < p.toNat → (sucW p.toNat M N c)[x]? = some [goM M (c.getD 0 0) (x : Int), goM N (c.getD 1 0) (x : Int)] := fun x hx => by
            unfold sucW
            rw [List.getElem?_map, List.getElem?_range hx]; rfl
          obtain ⟨b1, x1, r1⟩ := BfW.row (sucW p.toNat M N c) 0 q (by rw [show ((0 : Nat) : Int) = 0 from rfl, Int.add_zero]; exact h.weak (hL hal)) e (by rw [hlen]; omega) (fun x g hx => by
            have hxl := (List.getElem?_eq_some_iff.mp hx).1
            rw [hlen] at hxl
            rw [hget x hxl] at hx
            rw [Nat.zero_add]
            exact (Option.some.inj hx).symm)
          have hl := h.ok.len
          rw [hlen, Nat.zero_add, show ((p.toNat : Nat) : Int) = p by omega] at b1
          generalize rowW (a : Int) 0 (sucW p.toNat M N c) q = q' at hr b1 x1 r1
          have hl' := b1.ok.len
          have wa : wayW q'.2 a = wayW q.2 a := x1.2.2 a (by omega)
          refine run_spec hp n (a + 1) q' R _ b1 (fun z => ?_) ⟨fun i hi c' hc' => ?_, fun i hi c' hc' x hx => ?_⟩ (by have := x1.1; omega) hr
          · have m := b1.mono a (a + 1) (Nat.lt_succ_self a) z
            rw [wa] at m
            have : (nW p (wayW q.2 a) + 1) * p ≤ nW p (wayW q'.2 (a + 1)) * p := Int.mul_le_mul_of_nonneg_right (by omega) (by omega)
            rw [Int.add_mul, Int.one_mul] at this
            exact this
          · by_cases z : i = a
            · subst z
              rw [x1.2.1 i c e] at hc'
              obtain rfl := Option.some.inj hc'
              exact ct
            · have hi2 : i < q.1.length := by omega
              have e2 := x1.2.1 i _ (List.getElem?_eq_getElem hi2)
              rw [e2] at hc'
              obtain rfl := Option.some.inj hc'
              exact d.same i (by omega) _ (List.getElem?_eq_getElem hi2)
          · by_cases z : i = a
            · subst z
              rw [x1.2.1 i c e] at hc'
              obtain rfl := Option.some.inj hc'
              obtain ⟨k, h1, h2⟩ := r1 x _ (hget x (by omega))
              rw [Nat.zero_add] at h2
              exact ⟨k, h1, by rw [wa]; exact h2⟩
            · have hi2 : i < q.1.length := by omega
              have e2 := x1.2.1 i _ (List.getElem?_eq_getElem hi2)
              rw [e2] at hc'
              obtain rfl := Option.some.inj hc'
              obtain ⟨k, h1, h2⟩ := d.next i (by omega) _ (List.getElem?_eq_getElem hi2) x hx
              have hkl := (List.getElem?_eq_some_iff.mp h1).1
              exact ⟨k, x1.2.1 k _ h1, by rw [x1.2.2 k (by omega), x1.2.2 i (by omega)]; exact h2⟩
        · rw [if_neg c8] at hr
          cases hr
      · rw [if_neg ct] at hr
        obtain rfl := Option.some.inj hr
        refine ⟨(fun e => by cases e), fun ds e2 => ?_⟩
        obtain rfl := Option.some.inj e2
        have hA : ApartW M N st sd (wayW q.2 a) := by
          rw [cw] at ct
          exact ct
        refine ⟨wayW q.2 a, rfl, ⟨cF, hA, fun v hv hvA => ?_⟩, q.1, h.nd, fun c' hc' => ?_, ?_⟩
        rotate_left
        · obtain ⟨i, hi⟩ := List.getElem?_of_mem hc'
          exact ⟨_, (h.way i c' hi).2, (h.way i c' hi).1⟩
        · have : (wayW q.2 a).length ≤ a := by
            unfold wayW
            rw [List.length_reverse]
            exact wayR_lenB _ _ _
          omega
        rcases hw v hv with ⟨i, hi, hn⟩ | ⟨_, hn⟩
        · have hil := (List.getElem?_eq_some_iff.mp hi).1
          have hia : a ≤ i := by
            rcases Nat.lt_or_ge i a with z | z
            · exact (hvA (d.same i z _ hi)).elim
            · exact z
          by_cases z : a = i
          · rw [z]; exact hn
          · exact Int.le_trans (Int.le_of_lt (h.mono a i (by omega) hil)) hn
        · exact Int.le_of_lt hn

theorem bfW_start {p : Int} (hp : 2 ≤ p) {M N : Mach} {st sd : Int} : BfW p M N st sd p ([[st, sd]], [(0, 0)]) := ⟨⟨rfl, fun i s h hi => by
  match i, h, hi with
  | i + 1, h, _ => exact absurd h (by simp)⟩, by simp, rfl, fun i c h => by
  match i, h with
  | 0, h =>
    obtain rfl := Option.some.inj h
    exact ⟨rfl, fun d hd => absurd hd (by simp [wayW, wayR])⟩
  | i + 1, h => exact absurd h (by simp), fun i k h1 h2 => by
  have : k < 1 := h2
  omega, fun k hk => by
  have hk2 : k < 1 := hk
  have e : k = 0 := by omega
  subst e
  show (1 : Int) < p
  omega⟩
theorem spec0 {p : Int} (hp : 2 ≤ p) {M N : Mach} {st sd : Int} {n : Nat} {R : Option (List Int)} (h : runW p.toNat M N n 0 ([[st, sd]], [(0, 0)]) = some R) :
    (R = none → ∀ v, Figs p v → ¬ ApartW M N st sd v) ∧ ∀ ds, R = some ds → ∃ u, ds = u ++ [0] ∧ LeastW p M N st sd u ∧ ∃ cs : List KeyL, cs.Nodup ∧ (∀ c ∈ cs, ∃ v, Figs p v ∧ c = prW M N st sd v) ∧ u.length < cs.length :=
  run_spec hp n 0 _ R p (bfW_start hp) (fun _ => by
    show p ≤ 1 * p
    omega) ⟨fun i hi => absurd hi (Nat.not_lt_zero i), fun i hi => absurd hi (Nat.not_lt_zero i)⟩ (Nat.zero_le _) h
def fW (p : Int) (a : Int) (u : List Int) : Int := u.foldl (fun v x => v * p + x) a
theorem fW_lt {p : Int} : ∀ {a b : List Int} {v w : Int}, a.length = b.length → Figs p a → Figs p b → v < w → fW p v a < fW p w b
  | [], [], v, w, _, _, _, h => h
  | x :: a, y :: b, v, w, hl, ha, hb, h => by
    have hx := ha x List.mem_cons_self
    have hy := hb y List.mem_cons_self
    have h1 : (v + 1) * p ≤ w * p := Int.mul_le_mul_of_nonneg_right (by omega) (by omega)
    rw [Int.add_mul, Int.one_mul] at h1
    exact fW_lt (v := v * p + x) (w := w * p + y) (by simpa using hl) (fun d hd => ha d (List.mem_cons_of_mem _ hd)) (fun d hd => hb d (List.mem_cons_of_mem _ hd)) (by omega)
theorem fW_lex {p : Int} : ∀ {a b : List Int} {v : Int}, a.length = b.length → Figs p a → Figs p b → HT.lexLt a b = true → fW p v a < fW p v b
  | [], [], v, _, _, _, h => by cases h
  | x :: a, y :: b, v, hl, ha, hb, h => by
    have ha2 : Figs p a := fun d hd => ha d (List.mem_cons_of_mem _ hd)
    have hb2 : Figs p b := fun d hd => hb d (List.mem_cons_of_mem _ hd)
    have hl2 : a.length = b.length := by simpa using hl
    rw [HT.lexLt_cons] at h
    by_cases e : x = y
    · rw [if_pos e] at h
      subst e
      exact fW_lex (v := v * p + x) hl2 ha2 hb2 h
    · rw [if_neg e] at h
      have h2 := of_decide_eq_true h
      exact fW_lt (v := v * p + x) (w := v * p + y) hl2 ha2 hb2 (by omega)
theorem nW_app (p : Int) (a b : List Int) : nW p (a ++ b) = fW p (nW p a) b := by
  unfold nW fW
  rw [List.foldl_append]
theorem nW_up {p : Int} (hp : 2 ≤ p) (a : List Int) (ha : Figs p a) : ∀ b, Figs p b → nW p a ≤ nW p (a ++ b) := by
  refine snoc_ind (fun _ => by rw [List.append_nil]; exact Int.le_refl _) fun u x ih h => ?_
  have h2 := figs_snoc.mp h
  have i1 := ih h2.1
  have h1 := nW_pos hp a ha
  rw [← List.append_assoc, nW_snoc]
  have : nW p (a ++ u) * 2 ≤ nW p (a ++ u) * p := Int.mul_le_mul_of_nonneg_left hp (by omega)
  omega
theorem nW_len {p : Int} (hp : 2 ≤ p) {a b : List Int} (ha : Figs p a) (hb : Figs p b) (h : a.length < b.length) : nW p a < nW p b := by
  have e : b = b.take (b.length - a.length) ++ b.drop (b.length - a.length) := (List.take_append_drop _ _).symm
  generalize hb1 : b.take (b.length - a.length) = b1 at e
  generalize hb2 : b.drop (b.length - a.length) = b2 at e
  have l2 : b2.length = a.length := by rw [← hb2, List.length_drop]; omega
  have l1 : b1.length = b.length - a.length := by rw [← hb1, List.length_take]; omega
  have f1 : Figs p b1 := fun d hd => hb d (by rw [e]; exact List.mem_append_left _ hd)
  have f2 : Figs p b2 := fun d hd => hb d (by rw [e]; exact List.mem_append_right _ hd)
  rw [e, nW_app]
  refine fW_lt l2.symm ha f2 ?_
  match b1, l1, f1 with
  | [], l1, _ => simp at l1; omega
  | x :: r, _, f1 =>
    have hx := f1 x List.mem_cons_self
    have := nW_up hp [x] (fun d hd => by rw [List.mem_singleton.mp hd]; exact hx) r fun d hd => f1 d (List.mem_cons_of_mem _ hd)
    have e1 : nW p [x] = 1 * p + x := rfl
    show 1 < nW p ([x] ++ r)
    omega
theorem nW_lex {p : Int} {a b : List Int} (ha : Figs p a) (hb : Figs p b) (hl : a.length = b.length) (h : HT.lexLt a b = true) : nW p a < nW p b := fW_lex (v := 1) hl ha hb h
theorem nW_inj {p : Int} (hp : 2 ≤ p) {a b : List Int} (ha : Figs p a) (hb : Figs p b) (h : nW p a = nW p b) : a = b := by
  rcases Nat.lt_trichotomy a.length b.length with z | z | z
  · have := nW_len hp ha hb z; omega
  · have key : ∀ (a b : List Int) (v : Int), a.length = b.length → Figs p a → Figs p b → fW p v a = fW p v b → a = b := by
      intro a
      induction a with
      | nil => intro b v hl _ _ _; rw [List.length_eq_zero_iff.mp hl.symm]
      | cons x a ih =>
        intro b v hl ha hb h
        match b, hl, hb, h with
        | y :: b, hl, hb, h =>
          have hl2 : a.length = b.length := by simpa using hl
          have ha2 : Figs p a := fun d hd => ha d (List.mem_cons_of_mem _ hd)
          have hb2 : Figs p b := fun d hd => hb d (List.mem_cons_of_mem _ hd)
          have h' : fW p (v * p + x) a = fW p (v * p + y) b := h
          rcases Int.lt_trichotomy x y with c | c | c
          · have := fW_lt (v := v * p + x) (w := v * p + y) hl2 ha2 hb2 (by omega); omega
          · subst c
            rw [ih b (v * p + x) hl2 ha2 hb2 h']
          · have := fW_lt (v := v * p + y) (w := v * p + x) hl2.symm hb2 ha2 (by omega); omega
    exact key a b 1 z ha hb h
  · have := nW_len hp hb ha z; omega
theorem beh_eqW {p : Int} {M N : Mach} {st sd : Int} : ∀ ds, (∀ v t y, ds = v ++ y :: t → ¬ ApartW M N st sd v) → behM p M st ds = behM p N sd ds := by
  refine snoc_ind (fun _ => rfl) fun u x ih h => ?_
  rw [behM_snoc, behM_snoc, ih fun v t y e => h v (t ++ [x]) y (by rw [e, List.append_assoc]; rfl)]
  have := h u [] x rfl
  unfold ApartW at this
  rw [Classical.not_not.mp this]
theorem least_eq {p : Int} (hp : 2 ≤ p) {M N : Mach} {st sd : Int} {u row : List Int} (h : LeastW p M N st sd u) (hF : Figs p row) (hr : row.length < (u ++ [0]).length ∨ (row.length = (u ++ [0]).length ∧ HT.lexLt row (u ++ [0]) = true)) : behM p M st row = behM p N sd row := by
  have fu : Figs p (u ++ [0]) := figs_snoc.mpr ⟨h.1, Int.le_refl 0, by omega⟩
  have lt : nW p row < nW p (u ++ [0]) := by
    rcases hr with z | ⟨z1, z2⟩
    · exact nW_len hp hF fu z
    · exact nW_lex hF fu z1 z2
  refine beh_eqW row fun v t y e hA => ?_
  have fv : Figs p v := fun d hd => hF d (by rw [e]; exact List.mem_append_left _ hd)
  have fy : 0 ≤ y ∧ y < p := hF y (by rw [e]; exact List.mem_append_right _ List.mem_cons_self)
  have ft : Figs p t := fun d hd => hF d (by rw [e]; exact List.mem_append_right _ (List.mem_cons_of_mem _ hd))
  have l1 := h.2.2 v fv hA
  have l2 := nW_up hp (v ++ [y]) (figs_snoc.mpr ⟨fv, fy⟩) t ft
  rw [List.append_assoc] at l2
  have e2 : row = v ++ ([y] ++ t) := e
  rw [← e2, nW_snoc] at l2
  rw [nW_snoc] at lt
  have l3 : nW p u * p ≤ nW p v * p := Int.mul_le_mul_of_nonneg_right l1 (by omega)
  omega
theorem turn_inW {p : Int} {M : Mach} {st : Int} (hO : OkT p M st) {v : List Int} (hv : Figs p v) : 0 ≤ turnM M (runM M st v) ∧ turnM M (runM M st v) < p := by
  have r := runM_in hO.ok rfl v hO.st0 hO.st1 hv
  have hs : (runM M st v).toNat < M.length := by omega
  have e : M.getD (runM M st v).toNat (0, []) = M[(runM M st v).toNat] := by rw [List.getD_eq_getElem?_getD, List.getElem?_eq_getElem hs]; rfl
  unfold turnM
  rw [e]
  exact hO.ok.turn _ (List.getElem_mem hs)
theorem told_apart {p : Int} {M N : Mach} {st sd : Int} (hO : OkT p M st) (hO2 : OkT p N sd) {u : List Int} (h : LeastW p M N st sd u) : behM p M st (u ++ [0]) ≠ behM p N sd (u ++ [0]) := fun e => by
  rw [behM_snoc, behM_snoc] at e
  have e2 := List.append_inj_right' e rfl
  have e3 := List.cons.inj e2
  have t1 := turn_inW hO h.1
  have t2 := turn_inW hO2 h.1
  have e4 := e3.1
  rw [Int.zero_add, Int.zero_add, Int.emod_eq_of_lt t1.1 t1.2, Int.emod_eq_of_lt t2.1 t2.2] at e4
  exact h.2.1 e4
theorem least_sym {p : Int} {M N : Mach} {st sd : Int} {u : List Int} (h : LeastW p M N st sd u) : LeastW p N M sd st u := ⟨h.1, fun e => h.2.1 e.symm, fun v hv hA => h.2.2 v hv fun e => hA e.symm⟩
theorem least_uniq {p : Int} (hp : 2 ≤ p) {M N : Mach} {st sd : Int} {u v : List Int} (h : LeastW p M N st sd u) (g : LeastW p M N st sd v) : u = v := nW_inj hp h.1 g.1 (Int.le_antisymm (h.2.2 v g.1 g.2.1) (g.2.2 u h.1 h.2.1))
/-! the search ends -/
theorem runW_some {p : Nat} {M N : Mach} {U : List KeyL} (hU : U.length ≤ 800) (hs : ∀ c ∈ U, ∀ g ∈ sucW p M N c, g ∈ U) :
    ∀ (n a : Nat) (q : List KeyL × List (Int × Int)), q.1.Nodup → (∀ c ∈ q.1, c ∈ U) → a ≤ q.1.length → U.length + 1 ≤ a + n → ∃ R, runW p M N n a q = some R
  | 0, a, q, hn, hq, ha, hl => by
    have := nodup_leL hn hq
    omega
  | n + 1, a, q, hn, hq, ha, hl => by
    have hl' := nodup_leL hn hq
    unfold runW
    cases e : q.1[a]? with
    | none => exact ⟨_, rfl⟩
    | some c =>
      have hc := hq c (List.mem_of_getElem? e)
      have hi := (List.getElem?_eq_some_iff.mp e).1
      dsimp only
      by_cases ct : turnM M (c.getD 0 0) = turnM N (c.getD 1 0)
      · rw [if_pos ct, if_pos (by omega)]
        refine runW_some hU hs n (a + 1) _ (rowW_nodup hn) (fun d hd => ?_) ?_ (by omega)
        · rcases rowW_mem hd with z | z
          · exact hq d z
          · exact hs c hc d z
        · have := rowW_le (a := (a : Int)) (gs := sucW p M N c) (f := 0) (q := q)
          omega
      · rw [if_neg ct]; exact ⟨_, rfl⟩
def allU (m n : Nat) : List KeyL := (List.range m).flatMap fun i : Nat => (List.range n).map fun j : Nat => [(i : Int), (j : Int)]
theorem allU_len (m n : Nat) : (allU m n).length = m * n := by
  unfold allU
  rw [List.length_flatMap]
  have : ((List.range m).map fun i : Nat => ((List.range n).map fun j : Nat => ([(i : Int), (j : Int)] : KeyL)).length) = (List.range m).map fun _ => n := List.map_congr_left fun i _ => by rw [List.length_map, List.length_range]
  rw [this, sum_same]
theorem allU_mem {m n : Nat} {c : KeyL} : c ∈ allU m n ↔ ∃ i j : Int, c = [i, j] ∧ 0 ≤ i ∧ i < (m : Int) ∧ 0 ≤ j ∧ j < (n : Int) := by
  unfold allU
  rw [List.mem_flatMap]
  constructor
  · rintro ⟨i, hi, h⟩
    obtain ⟨j, hj, rfl⟩ := List.mem_map.mp h
    have := List.mem_range.mp hi
    have := List.mem_range.mp hj
    exact ⟨i, j, rfl, by omega, by omega, by omega, by omega⟩
  · rintro ⟨i, j, rfl, i0, i1, j0, j1⟩
    refine ⟨i.toNat, List.mem_range.mpr (by omega), List.mem_map.mpr ⟨j.toNat, List.mem_range.mpr (by omega), ?_⟩⟩
    rw [Int.toNat_of_nonneg i0, Int.toNat_of_nonneg j0]
theorem run_ex {p : Int} {M N : Mach} {st sd : Int} (hO : OkT p M st) (hO2 : OkT p N sd) (h8 : M.length * N.length ≤ 800) : ∃ R, runW p.toNat M N (M.length * N.length + 1) 0 ([[st, sd]], [(0, 0)]) = some R := by
  refine runW_some (U := allU M.length N.length) (by rw [allU_len]; exact h8) (fun c hc g hg => ?_) _ 0 _ (by simp) (fun c hc => ?_) (Nat.zero_le _) (by rw [allU_len]; omega)
  · obtain ⟨i, j, rfl, i0, i1, j0, j1⟩ := allU_mem.mp hc
    obtain ⟨x, hx, rfl⟩ := sucW_mem hg
    have a := goM_in hO.ok rfl i0 i1 (d := (x : Int)) (by omega) (by omega)
    have b := goM_in hO2.ok rfl j0 j1 (d := (x : Int)) (by omega) (by omega)
    exact allU_mem.mpr ⟨_, _, rfl, a.1, a.2, b.1, b.2⟩
  · rw [List.mem_singleton.mp hc]
    exact allU_mem.mpr ⟨_, _, rfl, hO.st0, hO.st1, hO2.st0, hO2.st1⟩
/-- what is told, for machines in bounds -/
theorem spec1 {p : Int} {M N : Mach} {st sd : Int} (hO : OkT p M st) (hO2 : OkT p N sd) {n : Nat} {R : Option (List Int)} (h : runW p.toNat M N n 0 ([[st, sd]], [(0, 0)]) = some R) :
    (R = none → ∀ v, Figs p v → ¬ ApartW M N st sd v) ∧ ∀ ds, R = some ds → ∃ u, ds = u ++ [0] ∧ LeastW p M N st sd u ∧ u.length < M.length * N.length := by
  obtain ⟨h1, h2⟩ := spec0 hO.pr.two.1 h
  refine ⟨h1, fun ds e => ?_⟩
  obtain ⟨u, e1, e2, cs, n1, n2, n3⟩ := h2 ds e
  refine ⟨u, e1, e2, Nat.lt_of_lt_of_le n3 ?_⟩
  have := nodup_leL (all := allU M.length N.length) n1 fun c hc => by
    obtain ⟨v, fv, rfl⟩ := n2 c hc
    have a := runM_in hO.ok rfl v hO.st0 hO.st1 fv
    have b := runM_in hO2.ok rfl v hO2.st0 hO2.st1 fv
    exact allU_mem.mpr ⟨_, _, rfl, a.1, a.2, b.1, b.2⟩
  rw [allU_len] at this
  exact this
/-! all pairs that are come to, in any order -/
def scW (M N : Mach) (c : Key2) (x : Int) : Key2 := (goM M c.1 x, goM N c.2 x)
structure DfsW (p : Int) (M N : Mach) (st sd : Int) (ks ws : List Key2) : Prop where
  nd : ks.Nodup
  re : ∀ c, c ∈ ks ∨ c ∈ ws → ∃ v, Figs p v ∧ c = (runM M st v, runM N sd v)
  start : (st, sd) ∈ ks ∨ (st, sd) ∈ ws
  next : ∀ c ∈ ks, ∀ x : Int, 0 ≤ x → x < p → scW M N c x ∈ ks ∨ scW M N c x ∈ ws
theorem dfs_start {p : Int} {M N : Mach} {st sd : Int} : DfsW p M N st sd [] [(st, sd)] := ⟨List.nodup_nil, fun c h => by
  rcases h with h | h
  · cases h
  · exact ⟨[], (fun d hd => by cases hd), List.mem_singleton.mp h⟩, .inr (List.mem_singleton.mpr rfl), fun c h => by cases h⟩
theorem DfsW.old {p : Int} {M N : Mach} {st sd : Int} {ks ws : List Key2} {c : Key2} (h : DfsW p M N st sd ks (ws ++ [c])) (hc : c ∈ ks) : DfsW p M N st sd ks ws := by
  have f : ∀ d, d ∈ ks ∨ d ∈ ws ++ [c] → d ∈ ks ∨ d ∈ ws := fun d hd => by
    rcases hd with z | z
    · exact .inl z
    · rcases List.mem_append.mp z with z | z
      · exact .inr z
      · exact .inl (by rw [List.mem_singleton.mp z]; exact hc)
  exact ⟨h.nd, fun d hd => h.re d (hd.imp id fun z => List.mem_append_left _ z), f _ h.start, fun d hd x x0 x1 => f _ (h.next d hd x x0 x1)⟩
theorem DfsW.new {p : Int} {M N : Mach} {st sd : Int} {ks ws : List Key2} {c : Key2} (h : DfsW p M N st sd ks (ws ++ [c])) (hc : c ∉ ks) : DfsW p M N st sd (ks ++ [c]) (ws ++ (List.range p.toNat).map fun x : Nat => scW M N c (x : Int)) := by
  have f : ∀ d, d ∈ ks ∨ d ∈ ws ++ [c] → d ∈ ks ++ [c] ∨ d ∈ ws ++ (List.range p.toNat).map fun x : Nat => scW M N c (x : Int) := fun d hd => by
    rcases hd with z | z
    · exact .inl (List.mem_append_left _ z)
    · rcases List.mem_append.mp z with z | z
      · exact .inr (List.mem_append_left _ z)
      · exact .inl (List.mem_append_right _ z)
  refine ⟨?_, fun d hd => ?_, f _ h.start, fun d hd x x0 x1 => ?_⟩
  · refine List.nodup_append.mpr ⟨h.nd, by simp, fun x hx y hy e => ?_⟩
    subst e
    exact hc (List.mem_singleton.mp hy ▸ hx)
  · rcases hd with z | z
    · rcases List.mem_append.mp z with z | z
      · exact h.re d (.inl z)
      · exact h.re d (.inr (List.mem_append_right _ z))
    · rcases List.mem_append.mp z with z | z
      · exact h.re d (.inr (List.mem_append_left _ z))
      · obtain ⟨x, hx, rfl⟩ := List.mem_map.mp z
        have hx2 := List.mem_range.mp hx
        obtain ⟨v, fv, e⟩ := h.re c (.inr (List.mem_append_right _ (List.mem_singleton.mpr rfl)))
        refine ⟨v ++ [(x : Int)], figs_snoc.mpr ⟨fv, by omega, by omega⟩, ?_⟩
        rw [runM_snoc, runM_snoc, e]; rfl
  · rcases List.mem_append.mp hd with z | z
    · exact f _ (h.next d z x x0 x1)
    · rw [List.mem_singleton.mp z]
      refine .inr (List.mem_append_right _ (List.mem_map.mpr ⟨x.toNat, List.mem_range.mpr (by omega), ?_⟩))
      rw [Int.toNat_of_nonneg x0]
theorem DfsW.all {p : Int} {M N : Mach} {st sd : Int} {ks : List Key2} (h : DfsW p M N st sd ks []) : ∀ v, Figs p v → (runM M st v, runM N sd v) ∈ ks := by
  refine snoc_ind (fun _ => h.start.elim id fun z => by cases z) fun u x ih hF => ?_
  have h2 := figs_snoc.mp hF
  have := h.next _ (ih h2.1) x h2.2.1 h2.2.2
  rw [runM_snoc, runM_snoc]
  exact this.elim id fun z => by cases z
theorem DfsW.len {p : Int} {M N : Mach} {st sd : Int} {ks ws : List Key2} (hO : OkT p M st) (hO2 : OkT p N sd) (h : DfsW p M N st sd ks ws) : ks.length ≤ M.length * N.length := inK_len h.nd fun c hc => by
  obtain ⟨v, fv, rfl⟩ := h.re c (.inl hc)
  have a := runM_in hO.ok rfl v hO.st0 hO.st1 fv
  have b := runM_in hO2.ok rfl v hO2.st0 hO2.st1 fv
  exact ⟨a.1, a.2, b.1, b.2⟩
def difW (M N : Mach) (c : Key2) : Bool := decide (turnM M c.1 ≠ turnM N c.2)
theorem DfsW.none {p : Int} {M N : Mach} {st sd : Int} {ks : List Key2} (h : DfsW p M N st sd ks []) (hn : ∀ v, Figs p v → ¬ ApartW M N st sd v) : ks.filter (difW M N) = [] := by
  rw [List.filter_eq_nil_iff]
  intro c hc
  obtain ⟨v, fv, rfl⟩ := h.re c (.inl hc)
  intro z
  exact hn v fv (of_decide_eq_true (p := turnM M (runM M st v) ≠ turnM N (runM N sd v)) z)
theorem DfsW.some {p : Int} {M N : Mach} {st sd : Int} {ks : List Key2} (h : DfsW p M N st sd ks []) {u : List Int} (hu : LeastW p M N st sd u) : ks.filter (difW M N) ≠ [] := fun e => by
  have m := h.all u hu.1
  have m2 : (runM M st u, runM N sd u) ∈ ks.filter (difW M N) := List.mem_filter.mpr ⟨m, decide_eq_true hu.2.1⟩
  rw [e] at m2
  cases m2

abbrev sFD : Stmt := top 39
abbrev sIsm : Stmt := top 40
/-- the first difference of two machines, as the search finds it -/
def spFD (K : PySem.W.Frag) (C CPD : Addr) : Sp := fun vs H Q E => ∃ (x y : Addr) (p q : Int) (M N : Mach) (st su : Int), vs = [.ref x, .ref y] ∧ TurAt C H x p M st ∧ OkT p M st ∧ TurAt C H y q N su ∧ OkT q N su ∧
  ((p ≠ q ∧ ErrAt K CPD "PrimesDiffer" [] H E) ∨
   (p = q ∧ ∃ (n : Nat) (r : Option (List Int)), runW p.toNat M N n 0 ([[st, su]], [(0, 0)]) = some r ∧ (r = none → ∀ H', Same H H' → Q .non H') ∧ ∀ ds, r = some ds → ∀ H' t, Same H H' → H t = none → H' t = some (.tup (ds.map V.int)) → Q (.ref t) H'))
theorem wayR_len (ss : List (Int × Int)) : ∀ (n : Nat) (z : Int), (wayR ss n z).length ≤ n
  | 0, z => Nat.le_refl _
  | n + 1, z => by
    unfold wayR
    split
    · rw [List.length_cons]
      exact Nat.succ_le_succ (wayR_len ss n _)
    · exact Nat.zero_le _
theorem no_sts9 (p : Int) (t : Addr) (st : Int) : (tf p t st).lookup ("states" : Str) = none := tf_no p t st (by decide +kernel) (by decide +kernel) (by decide +kernel)
theorem sts_at9 {H : Hp} {xs : List V} {M : Mach} {s : Int} (h : StsAt H xs M) (s0 : 0 ≤ s) (s1 : s < (M.length : Int)) : ∃ b g, atI xs s = some (.ref b) ∧ H b = some (.tup [.int (turnM M s), .ref g]) ∧ H g = some (.tup ((M.getD s.toNat (0, [])).2.map V.int)) ∧ M.getD s.toNat (0, []) ∈ M := by
  have hi : s.toNat < M.length := by omega
  have hx : s.toNat < xs.length := by rw [h.1]; exact hi
  have hm : M[s.toNat]? = some M[s.toNat] := List.getElem?_eq_getElem hi
  obtain ⟨b, g, e, h1, h2⟩ := h.2 s.toNat _ _ (List.getElem?_eq_getElem hx) hm
  have eg : M.getD s.toNat (0, []) = M[s.toNat] := by rw [List.getD_eq_getElem?_getD, hm]; rfl
  have ea := atI_nat (xs := xs) (j := s.toNat) (v := .ref b) (by rw [List.getElem?_eq_getElem hx, e])
  rw [Int.toNat_of_nonneg s0] at ea
  refine ⟨b, g, ea, ?_, ?_, ?_⟩
  · unfold turnM; rw [eg]; exact h1
  · rw [eg]; exact h2
  · rw [eg]; exact List.getElem_mem hi
theorem for_ez {K : PySem.W.Frag} {a b : Addr} {xs ys : List V} {g : TG} {tb : TS} {D : Ends} {σ : L2.St} {H : Hp} (hl : xs.length = ys.length) (Pv : Nat → L2.St → Hp → Prop) (h0 : Pv 0 σ H) (hq : ∀ i σ H, Pv i σ H → SqT K H a xs ∧ SqT K H b ys)
    (hs : ∀ (i : Nat) (x y : V) (T T2 : Addr) (σ : L2.St) (H : Hp), xs[i]? = some x → ys[i]? = some y → Pv i σ H → H T = none → T2 ≠ T → H T2 = none → g (.ref T2) σ (upd (upd H T (.tup [x, y])) T2 (.tup [.int (i : Nat), .ref T])) fun σ2 H2 => tb { D with nx := Pv (i + 1), ct := Pv (i + 1), bk := D.nx } σ2 H2) (hd : ∀ σ H, Pv xs.length σ H → D.nx σ H) :
    ∃ W : Nat → Nat → L2.St → Hp → Prop, (∃ m, W 0 m σ H) ∧ ∀ i m σ H, W i m σ H →
      ((RZ.ItEZ K a b).stop i H ∧ D.nx σ H) ∨ ((RZ.ItEZ K a b).go i H ∧ ∃ N : L2.St → Hp → Prop, (∀ σ' H', N σ' H' → ∃ m', m' < m ∧ W (i + 1) m' σ' H') ∧ ∀ v H', (RZ.ItEZ K a b).yld i H v H' → g v σ H' fun σ2 H2 => tb { D with nx := N, ct := N, bk := D.nx } σ2 H2) := by
  refine ⟨fun i m σ H => m = xs.length - i ∧ i ≤ xs.length ∧ Pv i σ H, ⟨xs.length, rfl, Nat.zero_le _, h0⟩, ?_⟩
  rintro i m σ H ⟨rfl, hi, p⟩
  obtain ⟨s1, s2⟩ := hq i σ H p
  by_cases hlt : i < xs.length
  · refine .inr ⟨⟨xs, ys, _, _, s1, s2, List.getElem?_eq_getElem hlt, List.getElem?_eq_getElem (by omega)⟩, Pv (i + 1), fun σ' H' p' => ⟨xs.length - (i + 1), by omega, rfl, hlt, p'⟩, fun v H' ⟨T, T2, x, y, e1, e2, e3, e4, e5, e6, e7⟩ => ?_⟩
    subst e1 e5
    exact hs i x y T T2 σ H (e6 xs s1) (e7 ys s2) p e2 e3 e4
  · have e : i = xs.length := by omega
    subst e
    exact .inl ⟨⟨xs, ys, s1, s2, .inl (Nat.le_refl _)⟩, hd σ H p⟩
section
variable {P : Program} {w : World} {K : PySem.W.Frag} {mg : Str → Option Value} {base : Heap} {C CPD : Addr}
theorem n_star9 {j : Nat} {X : Cx} {NS WS : List (Str × Nat)} {G : List Str} {e : Expr} {es : List Expr} {te : TE} {t : TA} {p : Pos} (h : Nm P w K mg base j X NS WS G) (he : PE X e te) (hr : PA X es t) : PA X (.Starred e p :: es) (StX.tStar K te t) := by
  have e := h.eK
  subst e
  exact StX.pa_star he hr
def nFD : List Str := ["one", "other", "ones", "others", "pairs", "steps", "found", "at", "turn", "targets", "other_turn", "other_targets", "figure", "pair"]
theorem scFD : FnScope nFD ["one", "other"] (defScope sFD) := ⟨rfl, rfl, rfl, by decide +kernel, rfl, by decide +kernel, by decide +kernel⟩
theorem nmFD : nmB nFD [("one", 0), ("other", 1), ("ones", 2), ("others", 3), ("pairs", 4), ("steps", 5), ("found", 6), ("at", 7), ("turn", 8), ("targets", 9), ("other_turn", 10), ("other_targets", 11), ("figure", 12), ("pair", 13)] ["PrimesDiffer", "len", "_way", "enumerate", "zip"] (defScope sFD) = true := by decide +kernel
theorem ok_fd {f : Addr} {fd : FuncData} (F : Fun K "first_difference" "first_difference" sFD f fd) (B : Bn mg) (T' : Tc K C) (ES : Mf P w K mg base 1 C "states" ["self"] (spSts C)) (EP : Pf P w K mg base 1 C "prime" ["self"] (getSp C "_prime")) (ET : Pf P w K mg base 1 C "start" ["self"] (getSp C "_start"))
    (DW : Df P w K mg base 1 "_way" ["steps", "at"] (spWy K)) (KP : Ke P w K mg base 10 "PrimesDiffer" CPD "PrimesDiffer" ["self"] vs0) : FnOk P w K mg base (L2.CX P w) 12 f fd ["one", "other"] (spFD K C CPD) := by
  refine F.okX scFD (fun vs H Q E h => ?_) (fun cdv A outer s H vs Q E hr h => ?_)
  · obtain ⟨x, y, p, q, M, N, st, su, rfl, _⟩ := h
    rfl
  · obtain ⟨x, y, p, q, M, N, st, su, rfl, hT, hO, hU, hV, h⟩ := h
    have hcl := T'.cl
    obtain ⟨b1, b2, b3, b4, b5, b6, b7, b8, b9, b10, b11⟩ := B
    refine' ex_mk ?d ?_
    case d =>
      have nm0 := nm_of (CX := L2.CX P w) (P := P) (w := w) (K := K) (mg := mg) (base := base) (outer := outer) (H := H) (E := E) nmFD hr
      have nm := nm0.xe
      have hun := nm0.room.un
      refine' pss_cons (ps_if (pt_cmpR op_ne (n_p nm hcl EP (by decide) ?c1) (n_p nm hcl EP (by decide) ?c2) (nomark _)) (pss_one (ps_raise rfl (takes_of rfl rfl rfl rfl) (n_ke0 nm KP (by decide) ?g1))) pss_nil) (PSs.nox ?rest)
      case c1 => walk_at "pe"
      case c2 => walk_at "pe"
      case g1 => walk_at "mem"
      case rest =>
        refine' pss_cons (ps_par (i := 2) (j := 3) rfl nm0.nd rfl rfl (by decide) rfl rfl (pa_cons (n_m0 nm0 hcl ES (by decide) ?a1) (pa_cons (n_m0 nm0 hcl ES (by decide) ?a2) pa_nil)) (by rfl))
          (pss_cons (ps_par (i := 4) (j := 5) rfl nm0.nd rfl rfl (by decide) rfl rfl (pa_cons (pe_lst (pa_cons (pe_tup (pa_cons (n_p nm0 hcl ET (by decide) ?a3) (pa_cons (n_p nm0 hcl ET (by decide) ?a4) pa_nil))) pa_nil)) (pa_cons (pe_lst (pa_cons (pe_tup (pa_cons pe_int (pa_cons pe_int pa_nil))) pa_nil)) pa_nil)) (by rfl))
          (pss_cons (ps_asg (pe_dispT (by omega) ?a5 pe_bl) ?a6) (pss_cons ?a7 (pss_cons (ps_while PassesOwn.never ?wc (pss_cons ?w1 (pss_cons (ps_if ?w2 (pss_one (ps_ret (pe_tup (n_star9 nm0 (n_d nm0 DW (by decide) ?w3 (pa_cons ?w4 (pa_cons ?w5 pa_nil))) (pa_cons pe_int pa_nil))))) pss_nil)
            (pss_cons (n_for nm0 PassesOwn.never (n_ez nm0 b10 b9 ?z1 ?z2 (pa_cons ?z3 (pa_cons ?z4 pa_nil))) ?fg (pss_one (ps_if (pt_cmp (pc_dnotin (by omega) ?r1 ?r2) (by with_unfolding_all rfl)) (pss_cons (ps_dput (by omega) ?r3 ?r4 pe_bl (by rfl)) (pss_cons ?r5 (pss_one ?r6))) pss_nil)))
            (pss_one (ps_aug (i := 7) nm0.nd rfl (.inl rfl) pe_int ip_add)))))) (pss_one ?s9)))))
        case a1 => walk_at "pe"
        case a2 => walk_at "pe"
        case a3 => walk_at "pe"
        case a4 => walk_at "pe"
        case a5 => walk_at "pe"
        case a6 => walk_at "pg"
        case a7 => walk_at "ps"
        case wc => walk_at "pt"
        case w1 =>
          refine' ps_asg (pe_tup (pa_cons (n_ixL nm0 ?x1 (n_ixT nm0 (n_ixL nm0 ?x2 ?x3 (fun _ _ => rfl)) pe_int (fun _ _ => rfl)) (fun _ _ => rfl)) (pa_cons (n_ixL nm0 ?x4 (n_ixT nm0 (n_ixL nm0 ?x5 ?x6 (fun _ _ => rfl)) pe_int (fun _ _ => rfl)) (fun _ _ => rfl)) pa_nil))) (n_tupK nm0 (pgs_cons (n_tupK nm0 ?t1) (pgs_cons (n_tupK nm0 ?t2) pgs_nil)))
          case x1 => walk_at "pe"
          case x2 => walk_at "pe"
          case x3 => walk_at "pe"
          case x4 => walk_at "pe"
          case x5 => walk_at "pe"
          case x6 => walk_at "pe"
          case t1 => walk_at "pgs"
          case t2 => walk_at "pgs"
        case w2 => walk_at "pt"
        case w3 => walk_at "mem"
        case w4 => walk_at "pe"
        case w5 => walk_at "pe"
        case z1 => walk_at "mem"
        case z2 => walk_at "mem"
        case z3 => walk_at "pe"
        case z4 => walk_at "pe"
        case fg => walk_at "pg"
        case r1 => walk_at "pe"
        case r2 => walk_at "pe"
        case r3 => walk_at "pe"
        case r4 => walk_at "pe"
        case r5 => walk_at "ps"
        case r6 => walk_at "ps"
        case s9 => walk_at "ps"
    obtain ⟨dx, tx, qx, hx1, hx2, hx3⟩ := id hT
    obtain ⟨dy, ty, qy, hy1, hy2, hy3⟩ := id hU
    refine ⟨_, rfl, x, dx, _, rfl, hx1, x, dx, _, _, rfl, hx1, tf_p _ _ _, _, rfl, y, dy, _, rfl, hy1, y, dy, _, _, rfl, hy1, tf_p _ _ _, rfl, _, rfl, ?_⟩
    rcases h with ⟨hne, hE⟩ | ⟨rfl, n0, R, hrun, kN, kT⟩
    · rw [show (!decide (V.int p = V.int q)) = true by rw [dec_int]; simp [hne]]
      refine iteT ?_
      exact ke_ok (by show 0 ≤ 1000; decide) ⟨rfl, rfl⟩ hE
    rw [show (!decide (V.int p = V.int p)) = false by simp]
    refine iteF ?_
    have hpp : 0 < p ∧ p ≤ 7 := by rcases hO.pr with h | h | h | h <;> omega
    refine ⟨_, rfl, x, dx, _, rfl, hx1, no_sts9 _ _ _, x, p, M, st, rfl, hT, fun H1 r xs s1 hr0 hr1 hxs => ?_⟩
    refine ⟨_, rfl, y, dy, _, rfl, s1 _ _ hy1, no_sts9 _ _ _, y, p, N, su, rfl, hU.same s1, fun H2 r2 ys s2 hr20 hr21 hys => ?_⟩
    have s12 := Same.trans s1 s2
    have hr2 := s2 _ _ hr1
    have hxs := hxs.same s2
    refine ⟨_, _, rfl, ?_⟩
    refine ⟨_, rfl, x, dx, _, rfl, s12 _ _ hx1, x, dx, _, _, rfl, s12 _ _ hx1, tf_t _ _ _, _, rfl, y, dy, _, rfl, s12 _ _ hy1, y, dy, _, _, rfl, s12 _ _ hy1, tf_t _ _ _, by show 2 ≤ sizeLine; decide, fun t1 ht1 => ?_⟩
    have sa := same_new (o := .tup [.int st, .int su]) ht1
    have h_t1 : upd H2 t1 (.tup [.int st, .int su]) t1 = some (.tup [.int st, .int su]) := upd_same
    generalize upd H2 t1 (.tup [.int st, .int su]) = H3 at sa h_t1 ⊢
    refine ⟨by show 1 ≤ sizeLine; decide, fun l1 hl1 => ?_⟩
    have nl1 : H2 l1 = none := Same.free sa hl1
    have sb := same_new (o := .lst [.ref t1]) hl1
    have h_l1 : upd H3 l1 (.lst [.ref t1]) l1 = some (.lst [.ref t1]) := upd_same
    have h_t1 := sb _ _ h_t1
    have sb := Same.trans sa sb
    generalize upd H3 l1 (.lst [.ref t1]) = H4 at sb h_l1 h_t1 ⊢
    refine ⟨by show 2 ≤ sizeLine; decide, fun t2 ht2 => ?_⟩
    have sc := same_new (o := .tup [.int 0, .int 0]) ht2
    have h_t2 : upd H4 t2 (.tup [.int 0, .int 0]) t2 = some (.tup [.int 0, .int 0]) := upd_same
    have h_t1 := sc _ _ h_t1
    have h_l1 := sc _ _ h_l1
    have sc := Same.trans sb sc
    generalize upd H4 t2 (.tup [.int 0, .int 0]) = H5 at sc h_l1 h_t1 h_t2 ⊢
    refine ⟨by show 1 ≤ sizeLine; decide, fun l2 hl2 => ?_⟩
    have nl2 : H2 l2 = none := Same.free sc hl2
    have n12 : l1 ≠ l2 := ne_of_none h_l1 hl2
    have sd := same_new (o := .lst [.ref t2]) hl2
    have h_l2 : upd H5 l2 (.lst [.ref t2]) l2 = some (.lst [.ref t2]) := upd_same
    have h_t1 := sd _ _ h_t1
    have h_t2 := sd _ _ h_t2
    have h_l1 := sd _ _ h_l1
    have sd := Same.trans sc sd
    generalize upd H5 l2 (.lst [.ref t2]) = H6 at sd h_l1 h_t1 h_t2 h_l2 ⊢
    refine ⟨_, _, rfl, ?_⟩
    intro d hd0
    have nd : H2 d = none := Same.free sd hd0
    have se := same_new (o := .dT []) hd0
    have k2 : (upd H6 d (.dT [])) t1 = some (.tup ((kyL [st, su]).map kV)) := by rw [kyL_kV]; exact se _ _ h_t1
    refine ⟨_, rfl, l1, _, _, _, rfl, rfl, SqL.of (se _ _ h_l1), rfl, t1, kyL [st, su], rfl, k2, upd_same, ?_⟩
    have sf : Same H6 (upd (upd H6 d (.dT [])) d (.dT [(kyL [st, su], .bl true)])) := same_put se hd0
    have hfd : FdL (upd (upd H6 d (.dT [])) d (.dT [(kyL [st, su], .bl true)])) d [[st, su]] := fdL_one upd_same
    have h_t1 := sf _ _ h_t1
    have h_t2 := sf _ _ h_t2
    have h_l1 := sf _ _ h_l1
    have h_l2 := sf _ _ h_l2
    have sf := Same.trans sd sf
    show tSeq _ _ _ _ _
    generalize upd (upd H6 d (.dT [])) d (.dT [(kyL [st, su], .bl true)]) = H7 at sf h_l1 h_t1 h_t2 h_l2 hfd ⊢
    have hk1 : KlsAt H7 [.ref t1] [[st, su]] := ⟨rfl, fun i x k h1 h2 => by
      match i, h1, h2 with
      | 0, h1, h2 =>
        obtain rfl := (Option.some.inj h1).symm
        obtain rfl := (Option.some.inj h2).symm
        exact ⟨t1, rfl, h_t1⟩
      | i + 1, h1, h2 => exact absurd h1 (by simp)⟩
    have hk2 : PrsAt H7 [.ref t2] [(0, 0)] := ⟨rfl, fun i x k h1 h2 => by
      match i, h1, h2 with
      | 0, h1, h2 =>
        obtain rfl := (Option.some.inj h1).symm
        obtain rfl := (Option.some.inj h2).symm
        exact ⟨t2, rfl, h_t2⟩
      | i + 1, h1, h2 => exact absurd h1 (by simp)⟩
    refine ⟨fun m σ H' => ∃ (a : Nat) (q : List KeyL × List (Int × Int)) (v8 v9 v10 v11 v12 v13 : Option V) (px sx : List V), σ = [some (.ref x), some (.ref y), some (.ref r), some (.ref r2), some (.ref l1), some (.ref l2), some (.ref d), some (.int (a : Int)), v8, v9, v10, v11, v12, v13] ∧ Same H2 H' ∧
      H' l1 = some (.lst px) ∧ KlsAt H' px q.1 ∧ H' l2 = some (.lst sx) ∧ PrsAt H' sx q.2 ∧ FdL H' d q.1 ∧ StW q ∧ (∀ c ∈ q.1, ∃ i j : Int, c = [i, j] ∧ 0 ≤ i ∧ i < (M.length : Int) ∧ 0 ≤ j ∧ j < (N.length : Int)) ∧ q.1.length ≤ 810 ∧ runW p.toNat M N m a q = some R,
      ⟨n0, 0, ([[st, su]], [(0, 0)]), none, none, none, none, none, none, [.ref t1], [.ref t2], rfl, sf, h_l1, hk1, h_l2, hk2, hfd, ⟨rfl, fun i s h hi => by
        match i, h, hi with
        | i + 1, h, _ => exact absurd h (by simp)⟩, fun c hc => ⟨st, su, List.mem_singleton.mp hc, hO.st0, hO.st1, hV.st0, hV.st1⟩, by show 1 ≤ 810; decide, hrun⟩, ?_⟩
    rintro m σ H' ⟨a, q, v8, v9, v10, v11, v12, v13, px, sx, rfl, s5, hl1', hpk, hl2', hsk, hfd', hst, hin, h810, hrn⟩
    have lpx := hpk.1
    refine ⟨_, rfl, _, rfl, l1, _, rfl, .inl (SqL.of hl1'), _, _, rfl, rfl, _, rfl, ?_⟩
    by_cases c : (a : Int) < (px.length : Int)
    · refine Eq.mpr (if_pos (decide_eq_true c)) ?_
      have haq : a < q.1.length := by omega
      have ek : q.1[a]? = some q.1[a] := List.getElem?_eq_getElem haq
      obtain ⟨i, j, ekey, i0, i1, j0, j1⟩ := hin _ (List.getElem_mem haq)
      rw [ekey] at ek
      cases m with
      | zero => cases hrn
      | succ m =>
      unfold runW at hrn
      rw [ek] at hrn
      dsimp only at hrn
      replace hrn : (if turnM M i = turnM N j then (if q.1.length ≤ 800 then runW p.toNat M N m (a + 1) (rowW (a : Int) 0 (sucW p.toNat M N [i, j]) q) else none) else some (some (wayW q.2 a ++ [0]))) = some R := hrn
      refine ⟨fun σ' H3 => ∃ (q : List KeyL × List (Int × Int)) (v8 v9 v10 v11 v12 v13 : Option V) (px sx : List V), σ' = [some (.ref x), some (.ref y), some (.ref r), some (.ref r2), some (.ref l1), some (.ref l2), some (.ref d), some (.int ((a + 1 : Nat) : Int)), v8, v9, v10, v11, v12, v13] ∧ Same H2 H3 ∧
        H3 l1 = some (.lst px) ∧ KlsAt H3 px q.1 ∧ H3 l2 = some (.lst sx) ∧ PrsAt H3 sx q.2 ∧ FdL H3 d q.1 ∧ StW q ∧ (∀ c ∈ q.1, ∃ i j : Int, c = [i, j] ∧ 0 ≤ i ∧ i < (M.length : Int) ∧ 0 ≤ j ∧ j < (N.length : Int)) ∧ q.1.length ≤ 810 ∧ runW p.toNat M N m (a + 1) q = some R,
        fun σ' H3 ⟨q, v8, v9, v10, v11, v12, v13, px, sx, z⟩ => ⟨m, Nat.lt_succ_self m, a + 1, q, v8, v9, v10, v11, v12, v13, px, sx, z⟩, ?_⟩
      have hxp : a < px.length := by omega
      obtain ⟨ka, eka, hka⟩ := hpk.2 a _ _ (List.getElem?_eq_getElem hxp) ek
      have eat : atI px (a : Int) = some (.ref ka) := atI_nat (by rw [List.getElem?_eq_getElem hxp, eka])
      obtain ⟨b, g, hat, hb, hg, hmem⟩ := sts_at9 hxs i0 i1
      obtain ⟨b', g', hat', hb', hg', hmem'⟩ := sts_at9 hys j0 j1
      have lgs := hO.ok.many _ hmem
      have lhs := hV.ok.many _ hmem'
      have hgo1 : ∀ g ∈ (M.getD i.toNat (0, [])).2, 0 ≤ g ∧ g < (M.length : Int) := hO.ok.goal _ hmem
      have hgo2 : ∀ g ∈ (N.getD j.toNat (0, [])).2, 0 ≤ g ∧ g < (N.length : Int) := hV.ok.goal _ hmem'
      have egs : ∀ k : Nat, goM M i (k : Int) = (M.getD i.toNat (0, [])).2.getD k 0 := fun k => by unfold goM; rw [Int.toNat_natCast]
      have ehs : ∀ k : Nat, goM N j (k : Int) = (N.getD j.toNat (0, [])).2.getD k 0 := fun k => by unfold goM; rw [Int.toNat_natCast]
      generalize (M.getD i.toNat (0, [])).2 = gs at *
      generalize (N.getD j.toNat (0, [])).2 = hs at *
      refine ⟨_, rfl, _, rfl, _, rfl, l1, px, _, _, rfl, rfl, SqL.of hl1', eat, ka, _, 0, _, rfl, rfl, SqT.of hka, rfl, r, xs, _, _, rfl, rfl, SqL.of (s5 _ _ hr2), hat,
        _, rfl, _, rfl, _, rfl, l1, px, _, _, rfl, rfl, SqL.of hl1', eat, ka, _, 1, _, rfl, rfl, SqT.of hka, rfl, r2, ys, _, _, rfl, rfl, SqL.of (s5 _ _ hr21), hat', by show 2 ≤ sizeLine; decide, fun tt htt => ?_⟩
      have s6 := same_new (o := .tup [.ref b, .ref b']) htt
      have h_tt : upd H' tt (.tup [.ref b, .ref b']) tt = some (.tup [.ref b, .ref b']) := upd_same
      generalize upd H' tt (.tup [.ref b, .ref b']) = H8 at s6 h_tt ⊢
      have s58 := Same.trans s5 s6
      refine ⟨tt, _, rfl, SqT.of h_tt, rfl, _, _, rfl, b, _, rfl, SqT.of (s58 _ _ hb), rfl, _, _, rfl, _, _, rfl, rfl, _, _, rfl, b', _, rfl, SqT.of (s58 _ _ hb'), rfl, _, _, rfl, _, _, rfl, rfl, rfl, ?_⟩
      refine ⟨_, rfl, _, rfl, rfl, _, rfl, ?_⟩
      have lq := hst.len
      by_cases ct : turnM M i = turnM N j
      · rw [if_pos ct] at hrn
        rw [show (!decide (V.int (turnM M i) = V.int (turnM N j))) = false by rw [ct]; simp]
        refine iteF ?_
        by_cases c8 : q.1.length ≤ 800
        · rw [if_pos c8] at hrn
          generalize hsu : sucW p.toNat M N [i, j] = su2 at hrn
          have lsu : su2.length = p.toNat := by rw [← hsu]; unfold sucW; rw [List.length_map, List.length_range]
          have hsk2 : ∀ k : Nat, k < p.toNat → su2[k]? = some [gs.getD k 0, hs.getD k 0] := fun k hk => by
            rw [← hsu]
            unfold sucW
            rw [List.getElem?_map, List.getElem?_range hk, ← egs, ← ehs]; rfl
          refine ⟨_, rfl, _, rfl, g, g', gs.map V.int, hs.map V.int, rfl, SqT.of (s58 _ _ hg), SqT.of (s58 _ _ hg'), ?_⟩
          refine for_ez (xs := gs.map V.int) (ys := hs.map V.int) (by rw [List.length_map, List.length_map]; omega) (fun k σ H9 => ∃ (v12 v13 : Option V) (px sx : List V), σ = [some (.ref x), some (.ref y), some (.ref r), some (.ref r2), some (.ref l1), some (.ref l2), some (.ref d), some (.int (a : Int)), some (.int (turnM M i)), some (.ref g), some (.int (turnM N j)), some (.ref g'), v12, v13] ∧ Same H2 H9 ∧
            H9 l1 = some (.lst px) ∧ KlsAt H9 px (rowW (a : Int) 0 (su2.take k) q).1 ∧ H9 l2 = some (.lst sx) ∧ PrsAt H9 sx (rowW (a : Int) 0 (su2.take k) q).2 ∧ FdL H9 d (rowW (a : Int) 0 (su2.take k) q).1 ∧ (∀ c ∈ (rowW (a : Int) 0 (su2.take k) q).1, ∃ i j : Int, c = [i, j] ∧ 0 ≤ i ∧ i < (M.length : Int) ∧ 0 ≤ j ∧ j < (N.length : Int)))
            ⟨v12, v13, px, sx, rfl, s58, s6 _ _ hl1', hpk.same s6, s6 _ _ hl2', KlsAt.same hsk s6, hfd'.same s6, hin⟩ (fun k σ H9 h => by
              obtain ⟨_, _, _, _, _, s9, _⟩ := h
              exact ⟨SqT.of (s9 _ _ hg), SqT.of (s9 _ _ hg')⟩) ?_ ?_
          · rintro k ex ey T T2 σ H9 hx9 hy9 ⟨v12, v13, px, sx, rfl, s9, hl19, hpk9, hl29, hsk9, hfd9, hin9⟩ hT9 hne9 hT29
            have hk : k < p.toNat := by
              have := (List.getElem?_eq_some_iff.mp hx9).1
              rw [List.length_map] at this
              omega
            have ei : ex = V.int (gs.getD k 0) ∧ ey = V.int (hs.getD k 0) := by
              rw [List.getElem?_map] at hx9 hy9
              constructor
              · rw [List.getD_eq_getElem?_getD]
                cases e : gs[k]? with
                | none => rw [e] at hx9; cases hx9
                | some z => rw [e] at hx9; exact (Option.some.inj hx9).symm
              · rw [List.getD_eq_getElem?_getD]
                cases e : hs[k]? with
                | none => rw [e] at hy9; cases hy9
                | some z => rw [e] at hy9; exact (Option.some.inj hy9).symm
            obtain ⟨rfl, rfl⟩ := ei
            have esu := hsk2 k hk
            generalize hgg : ([gs.getD k 0, hs.getD k 0] : KeyL) = gg at esu
            have hTk : ∀ H0 : Hp, H0 T = some (.tup [V.int (gs.getD k 0), V.int (hs.getD k 0)]) → H0 T = some (.tup (gg.map V.int)) := fun H0 e => by rw [← hgg]; exact e
            have hgb : ∃ i j : Int, gg = [i, j] ∧ 0 ≤ i ∧ i < (M.length : Int) ∧ 0 ≤ j ∧ j < (N.length : Int) := by
              have hk1 : k < gs.length := by omega
              have hk2 : k < hs.length := by omega
              have g1 : gs.getD k 0 = gs[k] := by rw [List.getD_eq_getElem?_getD, List.getElem?_eq_getElem hk1]; rfl
              have g2 : hs.getD k 0 = hs[k] := by rw [List.getD_eq_getElem?_getD, List.getElem?_eq_getElem hk2]; rfl
              have z1 := hgo1 _ (List.getElem_mem hk1)
              have z2 := hgo2 _ (List.getElem_mem hk2)
              refine ⟨gs.getD k 0, hs.getD k 0, hgg.symm, ?_, ?_, ?_, ?_⟩
              · rw [g1]; exact z1.1
              · rw [g1]; exact z1.2
              · rw [g2]; exact z2.1
              · rw [g2]; exact z2.2
            have eR := rowW_take (a := (a : Int)) (q := q) esu
            have okR := rowW_ok (a := a) (gs := su2.take k) (f := 0) hst haq
            have lsR := okR.2.2
            have lsT : (su2.take k).length ≤ 7 := by rw [List.length_take]; omega
            have lqk := okR.1.len
            generalize rowW (a : Int) 0 (su2.take (k + 1)) q = qn at eR ⊢
            generalize rowW (a : Int) 0 (su2.take k) q = qk at eR hpk9 hsk9 hfd9 hin9 lsR lqk
            have st1 := same_new (o := .tup [V.int (gs.getD k 0), V.int (hs.getD k 0)]) hT9
            have h_T : upd H9 T (.tup [V.int (gs.getD k 0), V.int (hs.getD k 0)]) T = some (.tup [V.int (gs.getD k 0), V.int (hs.getD k 0)]) := upd_same
            have h_T2 : upd H9 T (.tup [V.int (gs.getD k 0), V.int (hs.getD k 0)]) T2 = none := by rw [upd_ne hne9]; exact hT29
            generalize upd H9 T (.tup [V.int (gs.getD k 0), V.int (hs.getD k 0)]) = HA at st1 h_T h_T2 ⊢
            have st2 := same_new (o := .tup [V.int (k : Int), .ref T]) h_T2
            have h_T3 : upd HA T2 (.tup [V.int (k : Int), .ref T]) T2 = some (.tup [V.int (k : Int), .ref T]) := upd_same
            have h_T := hTk _ (st2 _ _ h_T)
            have st3 := Same.trans st1 st2
            generalize upd HA T2 (.tup [V.int (k : Int), .ref T]) = HB at st3 h_T h_T3 ⊢
            have hl19 := st3 _ _ hl19
            have hl29 := st3 _ _ hl29
            have hpk9 := hpk9.same st3
            have hsk9 : PrsAt HB sx qk.2 := KlsAt.same hsk9 st3
            have hfd9 := hfd9.same st3
            have s9 := Same.trans s9 st3
            have lpx9 := hpk9.1
            have lsx9 := hsk9.1
            rw [List.length_map] at lsx9
            refine ⟨T2, _, rfl, SqT.of h_T3, rfl, _, _, rfl, _, _, rfl, rfl, ?_⟩
            have get := hfd9.get h_T
            refine ⟨_, rfl, _, rfl, d, _, rfl, get, _, rfl, ?_⟩
            by_cases hme : gg ∈ qk.1
            · refine Eq.mpr (if_neg (by simp [hme])) ?_
              have e1 : qn = qk := by rw [eR]; unfold stepW; rw [if_pos hme]
              rw [e1]
              exact ⟨_, _, px, sx, rfl, s9, hl19, hpk9, hl29, hsk9, hfd9, hin9⟩
            · refine Eq.mpr (if_pos (by simp [hme])) ?_
              have e1 : qn = (qk.1 ++ [gg], qk.2 ++ [((a : Int), (k : Int))]) := by rw [eR]; unfold stepW; rw [if_neg hme]
              rw [e1]
              obtain ⟨kvs, hput, hfdN⟩ := hfd9.put h_T (by omega)
              have n1d := hfd9.ne hl19
              have n2d := hfd9.ne hl29
              obtain ⟨kvs0, hd9, _⟩ := id hfd9
              refine ⟨_, rfl, _, rfl, d, _, rfl, hput, ?_⟩
              have sP : Same H2 (upd HB d (.dT kvs)) := same_put s9 nd
              have hlA : (upd HB d (.dT kvs)) l1 = some (.lst px) := by rw [upd_ne n1d]; exact hl19
              have hlB : (upd HB d (.dT kvs)) l2 = some (.lst sx) := by rw [upd_ne n2d]; exact hl29
              have hpkA := hpk9.dt (ls := kvs) hd9
              have hskA : PrsAt (upd HB d (.dT kvs)) sx qk.2 := KlsAt.dt (ls := kvs) hsk9 hd9
              have nTd : T ≠ d := ne_of h_T hd9 (by intro z; cases z)
              have hTA : (upd HB d (.dT kvs)) T = some (.tup (gg.map V.int)) := by rw [upd_ne nTd]; exact h_T
              generalize upd HB d (.dT kvs) = HC at hfdN sP hlA hlB hpkA hskA hTA ⊢
              refine ⟨_, rfl, .inl ⟨rfl, _, SqL.of hlA⟩, _, rfl, l1, _, _, rfl, rfl, hlA, small1000 (by omega), ?_⟩
              have sQ : Same H2 (upd HC l1 (.lst (px ++ [.ref T]))) := same_put sP nl1
              have hpkB := (hpkA.snoc ⟨T, rfl, hTA⟩).lst (zs := px ++ [.ref T]) hlA
              have hskB : PrsAt (upd HC l1 (.lst (px ++ [.ref T]))) sx qk.2 := KlsAt.lst hskA hlA
              have hfdB := hfdN.lst (ys := px ++ [.ref T]) hlA
              have hl1B : (upd HC l1 (.lst (px ++ [.ref T]))) l1 = some (.lst (px ++ [.ref T])) := upd_same
              have hl2B : (upd HC l1 (.lst (px ++ [.ref T]))) l2 = some (.lst sx) := by rw [upd_ne n12.symm]; exact hlB
              generalize upd HC l1 (.lst (px ++ [.ref T])) = HD at sQ hpkB hskB hfdB hl1B hl2B ⊢
              refine ⟨_, rfl, .inl ⟨rfl, _, SqL.of hl2B⟩, _, rfl, _, rfl, by show 2 ≤ sizeLine; decide, fun t3 ht3 => ?_⟩
              have st4 := same_new (o := .tup [V.int (a : Int), V.int (k : Int)]) ht3
              have h_t3 : upd HD t3 (.tup [V.int (a : Int), V.int (k : Int)]) t3 = some (.tup [V.int (a : Int), V.int (k : Int)]) := upd_same
              have sR := Same.trans sQ st4
              have hpkC := hpkB.same st4
              have hskC : PrsAt _ sx qk.2 := KlsAt.same hskB st4
              have hfdC := hfdB.same st4
              have hl1C := st4 _ _ hl1B
              have hl2C := st4 _ _ hl2B
              generalize upd HD t3 (.tup [V.int (a : Int), V.int (k : Int)]) = HE at sR hpkC hskC hfdC hl1C hl2C h_t3 ⊢
              refine ⟨l2, _, _, rfl, rfl, hl2C, small1000 (by omega), ?_⟩
              refine ⟨_, _, px ++ [.ref T], sx ++ [.ref t3], rfl, same_put sR nl2, ?_, hpkC.lst hl2C, upd_same, ?_, hfdC.lst hl2C, ?_⟩
              · rw [upd_ne n12]; exact hl1C
              · have z := (KlsAt.snoc hskC (v := .ref t3) (k := [(a : Int), (k : Int)]) ⟨t3, rfl, h_t3⟩).lst (zs := sx ++ [.ref t3]) hl2C
                unfold PrsAt
                rw [List.map_append]
                exact z
              · intro c hc
                rcases List.mem_append.mp hc with z | z
                · exact hin9 c z
                · rw [List.mem_singleton.mp z]; exact hgb
          · rintro σ H9 ⟨v12, v13, px, sx, rfl, s9, hl19, hpk9, hl29, hsk9, hfd9, hin9⟩
            have okR := rowW_ok (a := a) (gs := su2) (f := 0) hst haq
            have lall : su2.take (gs.map V.int).length = su2 := by
              rw [List.length_map]
              exact List.take_of_length_le (by omega)
            rw [lall] at hpk9 hsk9 hfd9 hin9
            refine ⟨_, rfl, _, _, rfl, rfl, ?_⟩
            exact ⟨_, _, _, _, _, _, _, px, sx, rfl, s9, hl19, hpk9, hl29, hsk9, hfd9, okR.1, hin9, by have := okR.2.2; omega, hrn⟩
        · rw [if_neg c8] at hrn
          cases hrn
      · rw [if_neg ct] at hrn
        rw [show (!decide (V.int (turnM M i) = V.int (turnM N j))) = true by rw [dec_int]; simp [ct]]
        refine iteT ?_
        obtain rfl := Option.some.inj hrn
        refine ⟨_, rfl, _, rfl, l2, sx, q.2, a, rfl, s6 _ _ hl2', KlsAt.same hsk s6, by omega, hst.back, by omega, fun H9 w1 s9 hw0 hw1 => ?_⟩
        have lw : (wayW q.2 a).length ≤ a := by
          unfold wayW
          rw [List.length_reverse]
          exact wayR_len _ _ _
        refine ⟨w1, _, rfl, .inl (SqT.of hw1), ?_, fun t ht => ?_⟩
        · rw [List.length_append, List.length_map]
          show (wayW q.2 a).length + 1 ≤ sizeLine
          exact Nat.le_of_lt (small1000 (by omega))
        · refine kT _ rfl _ t (Same.trans (Same.trans s12 (Same.trans s58 s9)) (same_new ht)) (Same.free (Same.trans s12 (Same.trans s58 s9)) ht) ?_
          rw [upd_same, List.map_append]; rfl
    · refine Eq.mpr (if_neg (by simpa using c)) ?_
      have e0 : q.1[a]? = none := List.getElem?_eq_none (by omega)
      cases m with
      | zero => cases hrn
      | succ m =>
      unfold runW at hrn
      rw [e0] at hrn
      obtain rfl := Option.some.inj hrn
      exact kN rfl _ (Same.trans s12 s5)
theorem scIsm : FnScope ["one", "other"] ["one", "other"] (defScope sIsm) := ⟨rfl, rfl, rfl, by decide +kernel, rfl, by decide +kernel, by decide +kernel⟩
theorem nmIsm : nmB ["one", "other"] [("one", 0), ("other", 1)] ["first_difference"] (defScope sIsm) = true := by decide +kernel
/-- whether two machines do the same -/
def spIsm (K : PySem.W.Frag) (C CPD : Addr) : Sp := fun vs H Q E => ∃ (x y : Addr) (p q : Int) (M N : Mach) (st su : Int), vs = [.ref x, .ref y] ∧ TurAt C H x p M st ∧ OkT p M st ∧ TurAt C H y q N su ∧ OkT q N su ∧
  ((p ≠ q ∧ ErrAt K CPD "PrimesDiffer" [] H E) ∨
   (p = q ∧ ∃ (n : Nat) (r : Option (List Int)), runW p.toNat M N n 0 ([[st, su]], [(0, 0)]) = some r ∧ ∀ H', Same H H' → Q (.bl r.isNone) H'))
theorem ok_ism {f : Addr} {fd : FuncData} (F : Fun K "is_same" "is_same" sIsm f fd) (D : Dx P w K mg base 12 "first_difference" ["one", "other"] (spFD K C CPD)) : FnOk P w K mg base (L2.CX P w) 13 f fd ["one", "other"] (spIsm K C CPD) := by
  refine F.okX scIsm (fun vs H Q E h => ?_) (fun cdv A outer s H vs Q E hr h => ?_)
  · obtain ⟨x, y, p, q, M, N, st, su, rfl, _⟩ := h
    rfl
  · obtain ⟨x, y, p, q, M, N, st, su, rfl, hT, hO, hU, hV, h⟩ := h
    refine' ex_mk ?d ?_
    case d =>
      have nm := (nm_of (CX := L2.CX P w) (P := P) (w := w) (K := K) (mg := mg) (base := base) (outer := outer) (H := H) (E := E) nmIsm hr).xe
      refine' pss_one (ps_ret (pe_cmpR op_isN (n_dX nm D (by decide) ?g (takes_of rfl rfl rfl rfl) (pa_cons ?a1 (pa_cons ?a2 pa_nil))) pe_non (nomark _)))
      case g => walk_at "mem"
      case a1 => walk_at "pe"
      case a2 => walk_at "pe"
    refine ⟨_, rfl, _, rfl, x, y, p, q, M, N, st, su, rfl, hT, hO, hU, hV, ?_⟩
    rcases h with ⟨hne, hE⟩ | ⟨rfl, n0, R, hrun, k⟩
    · exact .inl ⟨hne, hE⟩
    · refine .inr ⟨rfl, n0, R, hrun, fun e H' s1 => ⟨rfl, ?_⟩, fun ds e H' t s1 ht0 ht => ⟨rfl, ?_⟩⟩
      · subst e
        exact k H' s1
      · subst e
        exact k H' s1
end

abbrev sLaw : Stmt := top 57
def nLaw : List Str := ["_law_script", "_law_bag_here", "_law_turn_z", "_law_p", "_law_m", "_law_n", "_law_one_z", "_law_other_z", "_law_told", "_law_seen", "_law_waits", "_law_pair", "_law_x", "_law_alike_z", "_law_many", "_law_row"]
def spLaw (K : PySem.W.Frag) : Sp := fun vs H Q _ => ∃ (a : Addr) (ns : List Int), vs = [.ref a] ∧ SqL K H a (ns.map V.int) ∧ ns.length ≤ 63 ∧ ∀ H', Q (.bl true) H'
theorem few_pow3 {q i : Nat} (hP : IsP (q : Int)) (hi : (i : Int) ≤ fewM q) : q ^ i ≤ 343 := by
  have hk : ∀ m : Nat, i ≤ m → q ^ m ≤ 343 → q ^ i ≤ 343 := fun m a b => Nat.le_trans (Nat.pow_le_pow_right (by have := hP.two; omega) a) b
  rcases hP with h | h | h | h
  · obtain rfl : q = 2 := by omega
    exact hk 8 (by have : fewM (2 : Nat) = 8 := rfl; omega) (by decide)
  · obtain rfl : q = 3 := by omega
    exact hk 5 (by have : fewM (3 : Nat) = 5 := rfl; omega) (by decide)
  · obtain rfl : q = 5 := by omega
    exact hk 3 (by have : fewM (5 : Nat) = 3 := rfl; omega) (by decide)
  · obtain rfl : q = 7 := by omega
    exact hk 3 (by have : fewM (7 : Nat) = 3 := rfl; omega) (by decide)
theorem few_leR {p : Int} (h : IsP p) : 0 < fewM p ∧ fewM p ≤ 8 := by
  rcases h with rfl | rfl | rfl | rfl <;> decide
theorem eq_tu2 {K : PySem.W.Frag} {H : Hp} {a b : Addr} {ds es : List Int} {Q : V → Hp → Prop} (ha : H a = some (.tup (ds.map V.int))) (hb : H b = some (.tup (es.map V.int))) (q : Q (.bl (decide (ds = es))) H) : rEqD K (.ref a) (.ref b) H Q := by
  refine ⟨.tuple (ds.map PyData.int), .tuple (es.map PyData.int), .tup (SqT.of ha) (dp_ints ds), .tup (SqT.of hb) (dp_ints es), shaped_t ds, shaped_t es, ?_⟩
  rw [show PyData.eqv (.tuple (ds.map PyData.int)) (.tuple (es.map PyData.int)) = decide (ds = es) by rw [PyData.eqv]; exact eqv_ints2 ds es]
  exact q
/-- what first_difference tells -/
def ToldV (H : Hp) (v : V) (r : Option (List Int)) : Prop := (r = none ∧ v = .non) ∨ ∃ ds t, r = some ds ∧ v = .ref t ∧ H t = some (.tup (ds.map V.int))
theorem ToldV.same {H H' : Hp} {v : V} {r : Option (List Int)} (h : ToldV H v r) (e : Same H H') : ToldV H' v r := by
  rcases h with h | ⟨ds, t, h1, h2, h3⟩
  · exact .inl h
  · exact .inr ⟨ds, t, h1, h2, e _ _ h3⟩
theorem ToldV.non {H : Hp} {v : V} {r : Option (List Int)} (h : ToldV H v r) : decide (v = .non) = r.isNone := by
  rcases h with ⟨rfl, rfl⟩ | ⟨ds, t, rfl, rfl, h3⟩
  · rfl
  · rfl
def spFDu (C : Addr) : Sp := fun vs H Q _ => ∃ (x y : Addr) (p : Int) (M N : Mach) (st su : Int), vs = [.ref x, .ref y] ∧ TurAt C H x p M st ∧ OkT p M st ∧ TurAt C H y p N su ∧ OkT p N su ∧
  ∃ (n : Nat) (r : Option (List Int)), runW p.toNat M N n 0 ([[st, su]], [(0, 0)]) = some r ∧ ∀ H' v, Same H H' → ToldV H' v r → Q v H'
def spIsg (C : Addr) : Sp := fun vs H Q _ => ∃ (x y : Addr) (p : Int) (M N : Mach) (st su : Int), vs = [.ref x, .ref y] ∧ TurAt C H x p M st ∧ OkT p M st ∧ TurAt C H y p N su ∧ OkT p N su ∧
  ∃ (n : Nat) (r : Option (List Int)), runW p.toNat M N n 0 ([[st, su]], [(0, 0)]) = some r ∧ ∀ H', Same H H' → Q (.bl r.isNone) H'
theorem fd_good {P : Program} {w : World} {K : PySem.W.Frag} {mg : Str → Option Value} {base : Heap} {C CPD f : Addr} {fd : FuncData} (F : FnOk P w K mg base (L2.CX P w) 12 f fd ["one", "other"] (spFD K C CPD)) : FnOk P w K mg base CX0 12 f fd ["one", "other"] (spFDu C) :=
  fn_from F fun vs H Q E ⟨x, y, p, M, N, st, su, e, h1, h2, h3, h4, n, r, hr, k⟩ => ⟨x, y, p, p, M, N, st, su, e, h1, h2, h3, h4, .inr ⟨rfl, n, r, hr, fun e H' s => k H' .non s (.inl ⟨e, rfl⟩), fun ds e H' t s _ ht => k H' (.ref t) s (.inr ⟨ds, t, e, rfl, ht⟩)⟩⟩
theorem is_good {P : Program} {w : World} {K : PySem.W.Frag} {mg : Str → Option Value} {base : Heap} {C CPD f : Addr} {fd : FuncData} (F : FnOk P w K mg base (L2.CX P w) 13 f fd ["one", "other"] (spIsm K C CPD)) : FnOk P w K mg base CX0 13 f fd ["one", "other"] (spIsg C) :=
  fn_from F fun vs H Q E ⟨x, y, p, M, N, st, su, e, h1, h2, h3, h4, k⟩ => ⟨x, y, p, p, M, N, st, su, e, h1, h2, h3, h4, .inr ⟨rfl, k⟩⟩
theorem kys_pick {H : Hp} {xs : List V} {ks : List Key2} (h : KysAt H xs ks) (js : List Nat) (hj : ∀ j ∈ js, j < ks.length) : KysAt H (js.map fun j => xs.getD j .non) (js.map fun j => ks.getD j (0, 0)) := ⟨by simp, fun i x k h1 h2 => by
  rw [List.getElem?_map] at h1 h2
  obtain ⟨j, e1, e2⟩ := Option.map_eq_some_iff.mp h1
  rw [e1] at h2
  have e3 : ks.getD j (0, 0) = k := Option.some.inj h2
  have hl := hj j (List.mem_of_getElem? e1)
  have hl2 : j < xs.length := by rw [h.1]; exact hl
  have hx : xs[j]? = some xs[j] := List.getElem?_eq_getElem hl2
  have hk : ks[j]? = some ks[j] := List.getElem?_eq_getElem hl
  rw [List.getD_eq_getElem?_getD, hx] at e2
  rw [List.getD_eq_getElem?_getD, hk] at e3
  exact h.2 j x k (by rw [hx]; exact congrArg some e2) (by rw [hk]; exact congrArg some e3)⟩
theorem filt_pick (l : List Key2) (f : Key2 → Bool) : ((List.range l.length).filter fun j => f (l.getD j (0, 0))).map (fun j => l.getD j (0, 0)) = l.filter f := by
  have e : (List.range l.length).map (fun j => l.getD j (0, 0)) = l := List.ext_getElem? fun i => by
    rw [List.getElem?_map]
    by_cases c : i < l.length
    · rw [List.getElem?_range c, List.getElem?_eq_getElem c]
      show some (l.getD i (0, 0)) = _
      rw [List.getD_eq_getElem?_getD, List.getElem?_eq_getElem c]; rfl
    · rw [List.getElem?_eq_none (by rw [List.length_range]; omega), List.getElem?_eq_none (by omega)]; rfl
  conv => rhs; rw [← e]
  rw [List.filter_map]; rfl
theorem kys_app {H : Hp} {xs ys : List V} {ks ls : List Key2} (h : KysAt H xs ks) (g : KysAt H ys ls) : KysAt H (xs ++ ys) (ks ++ ls) := ⟨by rw [List.length_append, List.length_append, h.1, g.1], fun i x k h1 h2 => by
  by_cases c : i < xs.length
  · rw [List.getElem?_append_left c] at h1
    rw [List.getElem?_append_left (by rw [← h.1]; exact c)] at h2
    exact h.2 i x k h1 h2
  · rw [List.getElem?_append_right (by omega)] at h1
    rw [List.getElem?_append_right (by rw [← h.1]; omega), ← h.1] at h2
    exact g.2 _ x k h1 h2⟩
theorem kys_drop {H : Hp} {xs : List V} {ks : List Key2} {c : Key2} (h : KysAt H xs (ks ++ [c])) : KysAt H xs.dropLast ks := ⟨by rw [List.length_dropLast, h.1, List.length_append]; rfl, fun i x k h1 h2 => by
  have hi := (List.getElem?_eq_some_iff.mp h2).1
  have hl := h.1
  rw [List.length_append] at hl
  have hx : xs[i]? = some x := by
    rw [List.getElem?_dropLast] at h1
    by_cases z : i < xs.length - 1
    · rw [if_pos z] at h1; exact h1
    · rw [if_neg z] at h1; cases h1
  exact h.2 i x k hx (by rw [List.getElem?_append_left hi]; exact h2)⟩
theorem rowAtW {H : Hp} {xs : List V} {M : Mach} {s : Int} (h : StsAt H xs M) (s0 : 0 ≤ s) (s1 : s < (M.length : Int)) : ∃ b g, atI xs s = some (.ref b) ∧ H b = some (.tup [.int (turnM M s), .ref g]) ∧ H g = some (.tup ((M.getD s.toNat (0, [])).2.map V.int)) ∧ M.getD s.toNat (0, []) ∈ M := sts_at9 h s0 s1

/-- two arguments by their names, the second first -/
def gSwR {α : Type} (_ zs : List α) : List α := match zs with
  | [a, b] => [b, a]
  | zs => zs
theorem kb_swR {K : PySem.W.Frag} {x qual : Str} {st : Stmt} {f : Addr} {fd : FuncData} {k k' : Str} (F : Fun K x qual st f fd)
    (h : ∀ (kV doc pm : Value) (an : Option Addr) (cdv ct a b : Value), bindArgs (PySem.W.fnOf x qual (defArgs st) (defBody st) (defScope st) .none kV doc pm an cdv ct) ⟨[], [(k', b), (k, a)]⟩ = pure [(k, a), (k', b)]) : KBn K fd [k, k'] 0 [k', k] gSwR gSwR := by
  obtain ⟨oc, od, kV, doc, pm, an, cdv, ct, osl, rfl, lk, hcd⟩ := F.ex
  refine ⟨fun s us ws _ l1 l2 => ?_, fun {vs us zs ws} r1 r2 => ?_⟩
  · match us, ws, l1, l2 with
    | [], [b, a], _, _ => exact .of_eq (h kV doc pm an cdv ct a b)
  · match zs, ws, r2 with
    | [], [], r => exact r
    | [_], [_], r => exact r
    | [_, _], [_, _], .cons b (.cons a .nil) => exact .cons a (.cons b .nil)
    | _ :: _ :: _ :: _, _ :: _ :: _ :: _, r => exact r
theorem eqv_keysN (ks : List Key2) : PyData.eqv (.list (ks.map keyD)) (.list []) = decide (ks = []) := by
  cases ks with
  | nil => rfl
  | cons k r =>
    rw [PyData.eqv, List.map_cons]
    rfl
theorem ne_keysN {K : PySem.W.Frag} {H : Hp} {a b : Addr} {xs : List V} {ks : List Key2} {Q : V → Hp → Prop} (ha : H a = some (.lst xs)) (hx : KysAt H xs ks) (hb : H b = some (.lst [])) (q : Q (.bl (!decide (ks = []))) H) : rNeD K (.ref a) (.ref b) H Q := by
  refine ⟨_, _, .lst (SqL.of ha) (dp_keys xs ks hx), .lst (SqL.of hb) .nil, shaped_keys ks, rfl, ?_⟩
  rw [eqv_keysN]
  exact q
theorem eq_keysN {K : PySem.W.Frag} {H : Hp} {a b : Addr} {xs : List V} {ks : List Key2} {Q : V → Hp → Prop} (ha : H a = some (.lst xs)) (hx : KysAt H xs ks) (hb : H b = some (.lst [])) (q : Q (.bl (decide (ks = []))) H) : rEqD K (.ref a) (.ref b) H Q := by
  refine ⟨_, _, .lst (SqL.of ha) (dp_keys xs ks hx), .lst (SqL.of hb) .nil, shaped_keys ks, rfl, ?_⟩
  rw [eqv_keysN]
  exact q
theorem ne_tu2 {K : PySem.W.Frag} {H : Hp} {a b : Addr} {ds es : List Int} {Q : V → Hp → Prop} (ha : H a = some (.tup (ds.map V.int))) (hb : H b = some (.tup (es.map V.int))) (q : Q (.bl (!decide (ds = es))) H) : rNeD K (.ref a) (.ref b) H Q := by
  refine ⟨.tuple (ds.map PyData.int), .tuple (es.map PyData.int), .tup (SqT.of ha) (dp_ints ds), .tup (SqT.of hb) (dp_ints es), shaped_t ds, shaped_t es, ?_⟩
  rw [show PyData.eqv (.tuple (ds.map PyData.int)) (.tuple (es.map PyData.int)) = decide (ds = es) by rw [PyData.eqv]; exact eqv_ints2 ds es]
  exact q
section
variable {P : Program} {w : World} {K : PySem.W.Frag} {mg : Str → Option Value} {base : Heap} {C CPD : Addr} {mc u : Value}
theorem n_ltT {j : Nat} {X : Cx} {NS WS : List (Str × Nat)} {G : List Str} (h : Nm P w K mg base j X NS WS G) : OpR X (compareOp .Lt) (rLtT K) := by
  have q := h.eK
  have hu := h.room.units
  subst q
  exact op_ltT (by omega)
theorem scLaw : FnScope nLaw ["_law_script"] (defScope sLaw) := ⟨rfl, rfl, rfl, by decide +kernel, rfl, by decide +kernel, by decide +kernel⟩
theorem nmLaw : nmB nLaw [("_law_script", 0), ("_law_bag_here", 1), ("_law_turn_z", 2), ("_law_p", 3), ("_law_m", 4), ("_law_n", 5), ("_law_one_z", 6), ("_law_other_z", 7), ("_law_told", 8), ("_law_seen", 9), ("_law_waits", 10), ("_law_pair", 11), ("_law_alike_z", 13), ("_law_many", 14), ("_law_row", 15)]
  ["_law_bag", "range", "_law_prime", "_law_plain", "_law_of", "_law_doubled", "_law_bent", "_law_made", "_law_same", "first_difference", "is_same", "isinstance", "tuple", "_law_behind", "len", "min", "_law_few", "_law_all_rows"] (defScope sLaw) = true := by decide +kernel
set_option pp.maxSteps 400 in
set_option maxHeartbeats 0 in
theorem ok_law {f : Addr} {fd : FuncData} (F : Fun K "law" "law" sLaw f fd) (B : Bn mg) (zmin : mg "min" = none) (cv : Cv K mg C mc u)
    (D1 : Df P w K mg base 1 "_law_bag" ["_law_script"] (spBag K)) (D2 : Df P w K mg base 3 "_law_prime" ["_law_bag_here"] spPrime) (D5 : Df P w K mg base 1 "_law_few" ["_law_p"] spFew)
    (DP : Df P w K mg base 3 "_law_plain" ["_law_bag_here", "_law_p", "_law_top"] spPlain) (DO : Df P w K mg base 2 "_law_of" ["_law_bag_here", "_law_some"] spOf) (DB : Df P w K mg base 3 "_law_bent" ["_law_bag_here", "_law_m"] spBt) (DD : Df P w K mg base 3 "_law_doubled" ["_law_bag_here", "_law_m"] spDb)
    (DM : Df P w K mg base 7 "_law_made" ["_law_m"] (spMade C)) (DR : Df P w K mg base 1 "_law_all_rows" ["_law_p", "_law_many"] spAllN) (D9 : Df P w K mg base 2 "_law_behind" ["_law_m", "_law_row"] spBeh)
    (D8 : Df P w K mg base 12 "_law_same" ["_law_found", "_law_due"] (spS K 12))
    (GF : Df P w K mg base 12 "first_difference" ["one", "other"] (spFDu C)) (GK : DfK P w K mg base 12 "first_difference" ["one", "other"] ["other", "one"] gSwR (spFDu C)) (GI : Df P w K mg base 13 "is_same" ["one", "other"] (spIsg C)) :
    FnOk P w K mg base CX0 16 f fd ["_law_script"] (spLaw K) := by
  refine F.ok scLaw (fun vs H Q E h => ?_) (fun cdv A outer s H vs Q E hr h => ?_)
  · obtain ⟨a, ns, rfl, _⟩ := h
    rfl
  · obtain ⟨a0, ns, rfl, hSc, h63, k⟩ := h
    obtain ⟨b1, b2, b3, b4, b5, b6, b7, b8, b9, b10, b11⟩ := B
    refine' ex_mk ?d ?_
    case d =>
      have nm := nm_of (CX := CX0) (P := P) (w := w) (K := K) (mg := mg) (base := base) (outer := outer) (H := H) (E := E) nmLaw hr
      have hu := nm.room.units
      have hun := nm.room.un
      refine' pss_cons ?s1 (pss_cons (n_for nm PassesOwn.never ?fi ?fg ?body) (pss_one ?s3))
      case s1 => walk_at "ps"
      case fi => walk_at "pi"
      case fg => walk_at "pg"
      case s3 => walk_at "ps"
      case body =>
        refine' pss_cons ?c1 (pss_cons ?c2 (pss_cons ?c3 (pss_cons ?c4 (pss_cons ?c5 (pss_cons ?c6 (pss_cons (ps_while PassesOwn.never (pt_cmpR (op_neD hu) ?wa (pe_lst pa_nil) (nomark _)) (pss_cons ?w1 (pss_one ?w2))) (pss_cons ?c8 (pss_cons ?c9 (pss_one ?c10)))))))))
        case c1 => walk_at "ps"
        case c2 => walk_at "ps"
        case c3 => walk_at "ps"
        case c4 =>
          refine' ps_par (i := 6) (j := 7) rfl nm.nd rfl rfl (by decide) rfl rfl (pa_cons ?u1 (pa_cons ?u2 pa_nil)) (by rfl)
          case u1 => walk_at "pe"
          case u2 => walk_at "pe"
        case c5 => walk_at "ps"
        case c6 =>
          refine' ps_par (i := 9) (j := 10) rfl nm.nd rfl rfl (by decide) rfl rfl (pa_cons (pe_lst pa_nil) (pa_cons (pe_lst (pa_cons (pe_tup (pa_cons ?u1 (pa_cons ?u2 pa_nil))) pa_nil)) pa_nil)) (by rfl)
          case u1 => walk_at "peT"
          case u2 => walk_at "peT"
        case wa => walk_at "pe"
        case w1 =>
          refine' ps_asg (pe_bm0 PySem.F.plainAttrs_list PySem.F.slot_list_pop PySem.F.type_list_pop mt_pop ?r1) ?gg
          case r1 => walk_at "pe"
          case gg => walk_at "pg"
        case w2 =>
          refine' ps_if (pt_cmpR (op_notInD (by omega)) ?r1 ?r2 (by with_unfolding_all rfl)) (pss_cons ?v1 (pss_one ?v2)) pss_nil
          case r1 => walk_at "pe"
          case r2 => walk_at "pe"
          case v1 => walk_at "ps"
          case v2 =>
            refine' ps_asg (pe_op op_cat ?e1 ?lc) ?gg
            case e1 => walk_at "pe"
            case lc =>
              refine' n_lc (own := [("_law_x", 12)]) (g := gName 12) (NS' := [("_law_m", 4), ("_law_n", 5), ("_law_pair", 11), ("_law_x", 12)]) (WS' := [("_law_x", 12)]) (G' := []) (N := nLaw) (scD := defScope sLaw) nm rfl rfl (by decide +kernel) (by decide +kernel) ?li (fun X' nm2 => ?lg)
                (fun X' nm2 => pe_tup (pa_cons (n_ixT nm2 (n_ixT nm2 (n_ixL nm2 (n_ixT nm2 ?m1 pe_int (fun _ _ => rfl)) (n_ixT nm2 ?m2 pe_int (fun _ _ => rfl)) (fun _ _ => rfl)) pe_int (fun _ _ => rfl)) ?m3 (fun _ _ => rfl)) (pa_cons (n_ixT nm2 (n_ixT nm2 (n_ixL nm2 (n_ixT nm2 ?m4 pe_int (fun _ _ => rfl)) (n_ixT nm2 ?m5 pe_int (fun _ _ => rfl)) (fun _ _ => rfl)) pe_int (fun _ _ => rfl)) ?m6 (fun _ _ => rfl)) pa_nil)))
              case li => walk_at "pi"
              case lg => walk_at "pg"
              case m1 => walk_at "pe"
              case m2 => walk_at "pe"
              case m3 => walk_at "pe"
              case m4 => walk_at "pe"
              case m5 => walk_at "pe"
              case m6 => walk_at "pe"
            case gg => walk_at "pg"
        case c8 =>
          refine' ps_asg (pe_cmpR (op_eqD hu) (n_lcI (own := [("_law_pair", 11)]) (g := gName 11) (NS' := [("_law_m", 4), ("_law_n", 5), ("_law_pair", 11)]) (WS' := [("_law_pair", 11)]) (G' := []) (N := nLaw) (scD := defScope sLaw) nm rfl rfl (by decide +kernel) (by decide +kernel) ?li (fun X' nm2 => ?lg)
            (fun X' nm2 => pt_cmpR op_ne (n_ixT nm2 (n_ixL nm2 (n_ixT nm2 ?m1 pe_int (fun _ _ => rfl)) (n_ixT nm2 ?m2 pe_int (fun _ _ => rfl)) (fun _ _ => rfl)) pe_int (fun _ _ => rfl)) (n_ixT nm2 (n_ixL nm2 (n_ixT nm2 ?m3 pe_int (fun _ _ => rfl)) (n_ixT nm2 ?m4 pe_int (fun _ _ => rfl)) (fun _ _ => rfl)) pe_int (fun _ _ => rfl)) (nomark _)) (fun X' nm2 => ?le)) (pe_lst pa_nil) (nomark _)) ?gg
          case li => walk_at "pi"
          case lg => walk_at "pg"
          case m1 => walk_at "pe"
          case m2 => walk_at "pe"
          case m3 => walk_at "pe"
          case m4 => walk_at "pe"
          case le => walk_at "pe"
          case gg => walk_at "pg"
        case c9 =>
          refine' ps_if (PW.pt (pw_or (pt_cmpR op_ne ?a1 (pe_cmpR op_isN ?a2 pe_non (nomark _)) (nomark _)) (pw_or1 (pt_not (pt_val (n_d nm D8 (by decide) ?g1 (pa_cons (n_d nm GI (by decide) ?g2 (pa_cons ?a3 (pa_cons ?a4 pa_nil))) (pa_cons ?a5 pa_nil)))))))) ?q4 pss_nil
          case a1 => walk_at "pe"
          case a2 => walk_at "pe"
          case g1 => walk_at "mem"
          case g2 => walk_at "mem"
          case a3 => walk_at "pe"
          case a4 => walk_at "pe"
          case a5 => walk_at "pe"
          case q4 => walk_at "pss"
        case c10 =>
          refine' ps_if ?t0 (pss_cons (ps_if (PW.pt (pw_or ?t1 (pw_or1 (pt_cmpR (n_eqD nm) (n_d nm D9 (by decide) ?g1 (pa_cons ?a1 (pa_cons ?a2 pa_nil))) (n_d nm D9 (by decide) ?g2 (pa_cons ?a3 (pa_cons ?a4 pa_nil))) (nomark _))))) ?q1 pss_nil)
            (pss_cons (n_for nm PassesOwn.never (n_rng nm b6 ?g3 (pa_cons (pe_op op_add (n_b (x := "min") nm zmin (call_min2 nm.calm) PyProof.Rows.boot_min ?g4 (pa_cons (n_len nm b1 ?g5 (pa_cons ?a5 pa_nil)) (pa_cons (n_d nm D5 (by decide) ?g6 (pa_cons ?a6 pa_nil)) pa_nil))) pe_int) pa_nil)) ?fg2
              (pss_one (n_for nm PassesOwn.never (pi_list (n_d nm DR (by decide) ?g7 (pa_cons ?a7 (pa_cons ?a8 pa_nil)))) ?fg3 (pss_one (ps_if (PW.pt (pw_and (PW.pt (pw_or (pt_cmpR op_lt ?a9 (n_len nm b1 ?g8 (pa_cons ?aa pa_nil)) (nomark _)) (pw_or1 (pt_cmpR (n_ltT nm) ?ab ?ac (nomark _)))))
                (pw_and1 (pt_cmpR (op_neD hu) (n_d nm D9 (by decide) ?g9 (pa_cons ?ad (pa_cons ?ae pa_nil))) (n_d nm D9 (by decide) ?ga (pa_cons ?af (pa_cons ?ag pa_nil))) (nomark _))))) ?q2 pss_nil)))))
            (pss_one (ps_if (pt_cmpR (op_neD hu) (n_dK nm GK (by decide) ?gb (pk_cons ?k1 (pk_cons ?k2 pk_nil))) ?ah (nomark _)) ?q3 pss_nil)))) pss_nil
          case t0 => walk_at "pt"
          case t1 => walk_at "pt"
          case g1 => walk_at "mem"
          case a1 => walk_at "pe"
          case a2 => walk_at "pe"
          case g2 => walk_at "mem"
          case a3 => walk_at "pe"
          case a4 => walk_at "pe"
          case q1 => walk_at "pss"
          case g3 => walk_at "mem"
          case g4 => walk_at "mem"
          case g5 => walk_at "mem"
          case a5 => walk_at "pe"
          case g6 => walk_at "mem"
          case a6 => walk_at "pe"
          case fg2 => walk_at "pg"
          case g7 => walk_at "mem"
          case a7 => walk_at "pe"
          case a8 => walk_at "pe"
          case fg3 => walk_at "pg"
          case a9 => walk_at "pe"
          case g8 => walk_at "mem"
          case aa => walk_at "pe"
          case ab => walk_at "pe"
          case ac => walk_at "pe"
          case g9 => walk_at "mem"
          case ad => walk_at "pe"
          case ae => walk_at "pe"
          case ga => walk_at "mem"
          case af => walk_at "pe"
          case ag => walk_at "pe"
          case q2 => walk_at "pss"
          case gb => walk_at "mem"
          case k1 => walk_at "pe"
          case k2 => walk_at "pe"
          case ah => walk_at "pe"
          case q3 => walk_at "pss"
    refine ⟨_, rfl, a0, ns, rfl, hSc, fun H0 b l s0 hb0 hB0 => ?_⟩
    refine ⟨4, rfl, by decide, by decide, for_range (lo := 0) (n := 4) (fun i σ H' => ∃ v2 v3 v4 v5 v6 v7 v8 v9 va vb vc vd ve vf, σ = [some (.ref a0), some (.ref b), v2, v3, v4, v5, v6, v7, v8, v9, va, vb, vc, vd, ve, vf] ∧ Bag H' b l)
      ⟨none, none, none, none, none, none, none, none, none, none, none, none, none, none, rfl, hB0⟩ ?_ ?_⟩
    · rintro i σ H' hi ⟨v2, v3, v4, v5, v6, v7, v8, v9, va, vb, vc, vd, ve, vf, rfl, hB⟩
      try dsimp (config := { proj := false }) only [gName, List.set_cons_succ, List.set_cons_zero]
      refine ⟨_, rfl, b, l, rfl, hB, fun H1 p st1 hP => ?_⟩
      have hp2 := hP.two
      have hfw := few_leR hP
      obtain ⟨q, rfl⟩ : ∃ q : Nat, p = (q : Int) := ⟨p.toNat, by omega⟩
      have hq : 0 < q := by omega
      have B1 := st1.2
      try dsimp (config := { proj := false }) only [gName, List.set_cons_succ, List.set_cons_zero]
      -- m
      refine ⟨_, rfl, _, rfl, b, l, _, 4, rfl, B1, hP, by decide, by decide, fun H2 t r xs M st st2 ht0 hr0 ht hr2 hM hO m0 m1 z0 z1 => ?_⟩
      have hOk : OkT (q : Int) M st := ⟨hP, hO, z0, z1, by omega⟩
      have A2 : MAt H2 t (q : Int) M st := ⟨r, xs, ht, hr2, hM⟩
      have B2 := st2.2
      try dsimp (config := { proj := false }) only [gName, List.set_cons_succ, List.set_cons_zero]
      -- n
      refine ⟨_, rfl, _, rfl, _, rfl, b, l, _, 3, rfl, B2, hP, by decide, by decide, fun H3 t1 r1 xs1 M1 sd1 st3 hg10 hr10 hg1 hr1 hM1 hO1 m10 m11 z10 z11 => ?_⟩
      have A1 : MAt H3 t1 (q : Int) M1 sd1 := ⟨r1, xs1, hg1, hr1, hM1⟩
      have O1 : OkT (q : Int) M1 sd1 := ⟨hP, hO1, z10, z11, by omega⟩
      have B3 := st3.2
      have A23 := A2.keep B2 st3.1
      refine ⟨_, rfl, _, rfl, b, l, t, _, M, st, rfl, B3, A23, hOk, by omega, fun H4 t2 M2 sd2 os st4 AA2 O2 _ hN2 => ?_⟩
      have B4 := st4.2
      have A24 := A23.keep B3 st4.1
      have A14 := A1.keep B3 st4.1
      refine ⟨_, rfl, _, rfl, b, l, t, _, M, st, rfl, B4, A24, hOk, fun H5 t3 M3 st5 AA3 O3 hN3 => ?_⟩
      have B5 := st5.2
      have A25 := A24.keep B4 st5.1
      have A15 := A14.keep B4 st5.1
      have AA25 := AA2.keep B4 st5.1
      refine ⟨_, rfl, _, rfl, b, l, t, _, M, st, rfl, B5, A25, hOk, fun H6 t4 M4 st6 AA4 O4 hN4 => ?_⟩
      have B6 := st6.2
      have A26 := A25.keep B5 st6.1
      have A16 := A15.keep B5 st6.1
      have AA26 := AA25.keep B5 st6.1
      have AA36 := AA3.keep B5 st6.1
      refine ⟨by show 4 ≤ sizeLine; decide, fun q5 hq5 => ?_⟩
      have s5 := same_new (o := .lst [.ref t1, .ref t2, .ref t3, .ref t4]) hq5
      have B6q := B6.same s5
      refine ⟨b, l, q5, _, rfl, B6q, upd_same, B6.ne hq5, by show 0 < 4; decide, by show 4 ≤ 1000; decide, fun H7 jn vn st7 hvn => ?_⟩
      obtain ⟨t', N, sd, rfl, AN6, hO2, hN8⟩ : ∃ t' N sd, vn = V.ref t' ∧ MAt H7 t' (q : Int) N sd ∧ OkT (q : Int) N sd ∧ N.length ≤ 8 := by
        match jn, hvn with
        | 0, h => obtain rfl := Option.some.inj h; exact ⟨t1, M1, sd1, rfl, (A16.same s5).keep B6q st7.1, O1, by omega⟩
        | 1, h => obtain rfl := Option.some.inj h; exact ⟨t2, M2, sd2, rfl, (AA26.same s5).keep B6q st7.1, O2, by omega⟩
        | 2, h => obtain rfl := Option.some.inj h; exact ⟨t3, M3, st, rfl, (AA36.same s5).keep B6q st7.1, O3, by omega⟩
        | 3, h => obtain rfl := Option.some.inj h; exact ⟨t4, M4, st, rfl, (AA4.same s5).keep B6q st7.1, O4, by omega⟩
        | j + 4, h => exact absurd h (by simp)
      have B7 := st7.2
      have AM6 := (A26.same s5).keep B6q st7.1
      clear A1 A2 A23 A24 A25 A26 A14 A15 A16 AA2 AA25 AA26 AA3 AA36 AA4 hvn hM1 hg1 hr1 hM hr2 ht
      have hM4 : M.length ≤ 4 := by omega
      have hmn : M.length * N.length ≤ 32 := Nat.mul_le_mul hM4 hN8
      try dsimp (config := { proj := false }) only [gName, List.set_cons_succ, List.set_cons_zero]
      -- one, other
      refine ⟨_, rfl, t, _, M, st, rfl, AM6, hOk, fun H8 x s8 hx0 X8 => ?_⟩
      refine ⟨_, rfl, t', _, N, sd, rfl, AN6.same s8, hO2, fun H9 y s9 hy0 Y9 => ⟨_, _, rfl, ?_⟩⟩
      have X9 := X8.same s9
      have AM9 := AM6.same (Same.trans s8 s9)
      have AN9 := AN6.same (Same.trans s8 s9)
      have B9 := (B7.same s8).same s9
      clear X8 AM6 AN6
      try dsimp (config := { proj := false }) only [gName, List.set_cons_succ, List.set_cons_zero]
      -- told
      obtain ⟨R, hR⟩ := run_ex hOk hO2 (Nat.le_trans hmn (by decide))
      obtain ⟨hRn, hRs⟩ := spec1 hOk hO2 hR
      refine ⟨_, rfl, _, rfl, x, y, _, M, N, st, sd, rfl, X9, hOk, Y9, hO2, _, R, hR, fun Ha tv sa hTV => ?_⟩
      have XX := X9.same sa
      have YY := Y9.same sa
      have AM := AM9.same sa
      have AN := AN9.same sa
      have BB := B9.same sa
      clear X9 Y9 AM9 AN9 B9 sa
      obtain ⟨mr, mxs, hm1, hm2, hm3⟩ := id AM
      obtain ⟨nr, nxs, hn1, hn2, hn3⟩ := id AN
      try dsimp (config := { proj := false }) only [gName, List.set_cons_succ, List.set_cons_zero]
      -- seen, waits
      refine ⟨by show 0 ≤ sizeLine; decide, fun qs hqs => ?_⟩
      have hqsN := hqs
      have u1 := same_new (o := .lst []) hqs
      have hqs1 : upd Ha qs (.lst []) qs = some (.lst []) := upd_same
      generalize upd Ha qs (.lst []) = Hb at u1 hqs1 ⊢
      refine ⟨_, rfl, t, _, 2, _, rfl, rfl, SqT.of (u1 _ _ hm1), rfl, _, rfl, t', _, 2, _, rfl, rfl, SqT.of (u1 _ _ hn1), rfl, by show 2 ≤ sizeLine; decide, fun k0 hk0 => ?_⟩
      have u2 := same_new (o := .tup [.int st, .int sd]) hk0
      have hk1 : upd Hb k0 (.tup [.int st, .int sd]) k0 = some (.tup [.int st, .int sd]) := upd_same
      have hqs2 := u2 _ _ hqs1
      have u12 := Same.trans u1 u2
      generalize upd Hb k0 (.tup [.int st, .int sd]) = Hc at u12 hk1 hqs2 ⊢
      refine ⟨by show 1 ≤ sizeLine; decide, fun qw hqw => ?_⟩
      have hqwN : Ha qw = none := Same.free u12 hqw
      have nsw : qs ≠ qw := ne_of_none hqs2 hqw
      have u3 := same_new (o := .lst [.ref k0]) hqw
      have hqw1 : upd Hc qw (.lst [.ref k0]) qw = some (.lst [.ref k0]) := upd_same
      have hk2 := u3 _ _ hk1
      have hqs3 := u3 _ _ hqs2
      have u13 := Same.trans u12 u3
      generalize upd Hc qw (.lst [.ref k0]) = Hd at u13 hk2 hqs3 hqw1 ⊢
      refine ⟨_, _, rfl, ?_⟩
      try dsimp (config := { proj := false }) only [gName, List.set_cons_succ, List.set_cons_zero]
      have hKw : KysAt Hd [.ref k0] [(st, sd)] := ⟨rfl, fun i x k h1 h2 => by
        match i, h1, h2 with
        | 0, h1, h2 =>
          obtain rfl := (Option.some.inj h1).symm
          obtain rfl := (Option.some.inj h2).symm
          exact ⟨k0, rfl, hk2⟩
        | i + 1, h1, h2 => exact absurd h1 (by simp)⟩
      refine ⟨fun m σ H' => ∃ (ks ws : List Key2) (vb vc : Option V) (qw : Addr) (sxs wxs : List V), m = (33 - ks.length) * 8 + ws.length ∧ σ = [some (.ref a0), some (.ref b), some (.int (0 + (i : Int))), some (.int (q : Int)), some (.ref t), some (.ref t'), some (.ref x), some (.ref y), some tv, some (.ref qs), some (.ref qw), vb, vc, vd, ve, vf] ∧ Same Ha H' ∧
        H' qs = some (.lst sxs) ∧ KysAt H' sxs ks ∧ H' qw = some (.lst wxs) ∧ KysAt H' wxs ws ∧ qs ≠ qw ∧ Ha qw = none ∧ DfsW (q : Int) M N st sd ks ws ∧ ws.length ≤ 1 + 7 * ks.length,
        ⟨_, [], [(st, sd)], vb, vc, qw, [], [.ref k0], rfl, rfl, u13, hqs3, ⟨rfl, fun i x k e => by simp at e⟩, hqw1, hKw, nsw, hqwN, dfs_start, by show 1 ≤ 1 + 7 * 0; decide⟩, ?_⟩
      rintro m σ He ⟨ks, ws, vb, vc, qw, sxs, wxs, rfl, rfl, se, hqs, hks, hqw, hws, nsw, hqwN, hD, hwl⟩
      have hkl := Nat.le_trans (hD.len hOk hO2) hmn
      have lsx := hks.1
      have lwx := hws.1
      refine ⟨_, rfl, by show 0 ≤ sizeLine; decide, fun z hz => ?_⟩
      have se2 := same_new (o := .lst []) hz
      refine ne_keysN (se2 _ _ hqw) (hws.same se2) upd_same ⟨_, rfl, ?_⟩
      have hqs := se2 _ _ hqs
      have hks := hks.same se2
      have hqw := se2 _ _ hqw
      have hws := hws.same se2
      have se := Same.trans se se2
      generalize upd He z (.lst []) = Hf at se hqs hks hqw hws ⊢
      by_cases cw : ws = []
      · rw [show (!decide (ws = [])) = false by simp [cw]]
        refine iteF ?_
        subst cw
        try dsimp (config := { proj := false }) only [gName, List.set_cons_succ, List.set_cons_zero]
        refine ⟨_, rfl, qs, rfl, ⟨_, SqL.of hqs⟩, fun D hDn => ?_⟩
        refine lc_filtV (pr := fun j => difW M N (ks.getD j (0, 0))) (sj_L (K := K) fun H6 s6 => SqL.of (s6 _ _ hqs)) hDn (by rw [lsx]; exact small1000 (by omega)) ?_ ?_
        · intro j z Hg Qy Qn hz sg ky kn
          have hjx := (List.getElem?_eq_some_iff.mp hz).1
          have hj : j < ks.length := by omega
          obtain ⟨v, fv, ecc⟩ := hD.re ks[j] (.inl (List.getElem_mem hj))
          have ek : ks[j]? = some ks[j] := List.getElem?_eq_getElem hj
          have eg : ks.getD j (0, 0) = ks[j] := by rw [List.getD_eq_getElem?_getD, ek]; rfl
          rw [eg] at ky kn
          generalize ks[j] = cc at ecc ek ky kn
          obtain ⟨kc, rfl, hkc⟩ := hks.2 j z cc hz ek
          have a1 := runM_in hOk.ok rfl v hOk.st0 hOk.st1 fv
          have a2 := runM_in hO2.ok rfl v hO2.st0 hO2.st1 fv
          obtain ⟨c1, c2⟩ := cc
          injection ecc with e1 e2
          rw [← e1] at a1
          rw [← e2] at a2
          obtain ⟨b1', g1, hat1, hb1, hg1, _⟩ := rowAtW hm3 a1.1 a1.2
          obtain ⟨b2', g2, hat2, hb2, hg2, _⟩ := rowAtW hn3 a2.1 a2.2
          have sag := Same.trans se sg
          refine ⟨rfl, ?_⟩
          refine ⟨_, rfl, t, _, 1, _, rfl, rfl, SqT.of (sag _ _ hm1), rfl, _, rfl, kc, _, 0, _, rfl, rfl, SqT.of (sg _ _ hkc), rfl, mr, mxs, _, _, rfl, rfl, SqL.of (sag _ _ hm2), hat1, b1', _, 0, _, rfl, rfl, SqT.of (sag _ _ hb1), rfl,
            _, rfl, t', _, 1, _, rfl, rfl, SqT.of (sag _ _ hn1), rfl, _, rfl, kc, _, 1, _, rfl, rfl, SqT.of (sg _ _ hkc), rfl, nr, nxs, _, _, rfl, rfl, SqL.of (sag _ _ hn2), hat2, b2', _, 0, _, rfl, rfl, SqT.of (sag _ _ hb2), rfl, rfl, _, rfl, ?_⟩
          by_cases c : turnM M c1 = turnM N c2
          · rw [show (!decide (V.int (turnM M c1) = V.int (turnM N c2))) = false by rw [c]; simp]
            refine iteF ?_
            exact kn (decide_eq_false fun z => z c) Hg fun _ _ e => e
          · rw [show (!decide (V.int (turnM M c1) = V.int (turnM N c2))) = true by rw [dec_int]; simp [c]]
            refine iteT ?_
            exact ⟨_, rfl, ky (decide_eq_true c) Hg fun _ _ e => e⟩
        · intro Hg sg hDg
          rw [lsx] at hDg
          have hk2 := kys_pick (hks.same sg) ((List.range ks.length).filter fun j => difW M N (ks.getD j (0, 0))) fun j hj => List.mem_range.mp (List.mem_filter.mp hj).1
          rw [filt_pick ks (difW M N)] at hk2
          refine ⟨by show 0 ≤ sizeLine; decide, fun z2 hz2 => ?_⟩
          have sg2 := same_new (o := .lst []) hz2
          refine eq_keysN (sg2 _ _ hDg) (hk2.same sg2) upd_same ?_
          have ealike : decide (ks.filter (difW M N) = []) = R.isNone := by
            cases R with
            | none => rw [hD.none (hRn rfl)]; rfl
            | some ds =>
              obtain ⟨u, e, hu, _⟩ := hRs ds rfl
              rw [decide_eq_false (hD.some hu)]; rfl
          rw [ealike]
          have sah := Same.trans se (Same.trans sg sg2)
          generalize upd Hg z2 (.lst []) = Hh at sah ⊢
          clear hk2 hDg sg sg2
          try dsimp (config := { proj := false }) only [gName, List.set_cons_succ, List.set_cons_zero]
          -- alike
          refine ⟨_, rfl, _, rfl, rfl, rfl, _, rfl, ?_⟩
          rw [hTV.non, show (!decide (V.bl R.isNone = V.bl R.isNone)) = false by simp]
          refine iteF ?_
          refine ⟨_, rfl, _, rfl, x, y, _, M, N, st, sd, rfl, XX.same sah, hOk, YY.same sah, hO2, _, R, hR, fun Hi si => ⟨_, rfl, _, _, rfl, .flat rfl, fun Hj sj => ⟨_, rfl, ?_⟩⟩⟩
          refine iteF ?_
          have saj := Same.trans sah (Same.trans si sj)
          clear sah si sj
          try dsimp (config := { proj := false }) only [gName, List.set_cons_succ, List.set_cons_zero]
          refine ⟨_, rfl, rfl, _, rfl, ?_⟩
          rw [hTV.non]
          rcases hTV with ⟨rfl, rfl⟩ | ⟨ds, tt, rfl, rfl, htt⟩
          · refine iteF ?_
            exact ⟨_, _, _, _, _, _, _, _, _, _, _, _, _, _, rfl, BB.same saj⟩
          · refine iteT ?_
            obtain ⟨u, rfl, hu, hul⟩ := hRs ds rfl
            have fds : Figs (q : Int) (u ++ [0]) := figs_snoc.mpr ⟨hu.1, Int.le_refl 0, by omega⟩
            have lds : (u ++ [0]).length = u.length + 1 := by rw [List.length_append]; rfl
            have hdif := told_apart hOk hO2 hu
            -- a tuple; the two do different things to it
            refine ⟨_, rfl, _, _, _, _, true, rfl, .ty _, .base (.tup (saj _ _ htt)), by rfl, _, rfl, ?_⟩
            refine iteF ?_
            refine ⟨_, rfl, _, rfl, t, tt, _, M, st, u ++ [0], rfl, AM.same saj, hOk, saj _ _ htt, fds, by omega, fun Hk r1 s1 hr10 hr1 => ?_⟩
            refine ⟨_, rfl, _, rfl, t', tt, _, N, sd, u ++ [0], rfl, AN.same (Same.trans saj s1), hO2, s1 _ _ (saj _ _ htt), fds, by omega, fun Hl r2 s2 hr20 hr2 => ?_⟩
            refine eq_tu2 (s2 _ _ hr1) hr2 ⟨_, rfl, ?_⟩
            rw [decide_eq_false hdif]
            refine iteF ?_
            have sal := Same.trans saj (Same.trans s1 s2)
            clear saj s1 s2 hr1 hr2 hr10 hr20
            try dsimp (config := { proj := false }) only [gName, List.set_cons_succ, List.set_cons_zero]
            -- nothing below differs
            refine ⟨_, rfl, tt, _, rfl, .inr (SqT.of (sal _ _ htt)), _, rfl, _, rfl, hP, fun Hm sm => ⟨_, _, rfl, _, _, rfl, rfl, ?_⟩⟩
            rw [List.length_map]
            obtain ⟨kn, hkn, hkn1, hkn2⟩ : ∃ kn : Nat, (if fewM (q : Int) < (((u ++ [0]).length : Nat) : Int) then fewM (q : Int) else (((u ++ [0]).length : Nat) : Int)) = (kn : Int) ∧ kn ≤ (u ++ [0]).length ∧ (kn : Int) ≤ fewM (q : Int) := by
              by_cases c : fewM (q : Int) < (((u ++ [0]).length : Nat) : Int)
              · rw [if_pos c]
                exact ⟨(fewM (q : Int)).toNat, by omega, by omega, by omega⟩
              · rw [if_neg c]
                exact ⟨_, rfl, Nat.le_refl _, by omega⟩
            rw [hkn]
            have sam := Same.trans sal sm
            refine ⟨(kn : Int) + 1, rfl, by omega, by omega, ?_⟩
            rw [show ((kn : Int) + 1).toNat = kn + 1 by omega]
            refine for_range (lo := 0) (n := kn + 1) (fun i' σ H' => ∃ ve vf, σ = [some (.ref a0), some (.ref b), some (.int (0 + (i : Int))), some (.int (q : Int)), some (.ref t), some (.ref t'), some (.ref x), some (.ref y), some (.ref tt), some (.ref qs), some (.ref qw), vb, vc, some (.bl false), ve, vf] ∧ Same Ha H') ⟨ve, vf, rfl, sam⟩ ?_ ?_
            · rintro m σ Hn hm ⟨ve, vf, rfl, san⟩
              try dsimp (config := { proj := false }) only [gName, List.set_cons_succ, List.set_cons_zero]
              rw [show (0 : Int) + (m : Int) = (m : Int) from Int.zero_add _]
              have hpw : ∀ i, i ≤ m → q ^ i ≤ 343 := fun i hi => few_pow3 hP (by omega)
              refine ⟨_, rfl, _, rfl, q, m, rfl, hP, by omega, fun i hi => Nat.le_trans (hpw i hi) (by decide), fun Ho rr rows so hrr0 hrr hrl hrows => ⟨rr, rfl, ⟨_, SqL.of hrr⟩, ?_⟩⟩
              have sao := Same.trans san so
              refine for_list (K := K) (a := rr) (xs := rows) (fun i' σ H' => ∃ vf, σ = [some (.ref a0), some (.ref b), some (.int (0 + (i : Int))), some (.int (q : Int)), some (.ref t), some (.ref t'), some (.ref x), some (.ref y), some (.ref tt), some (.ref qs), some (.ref qw), vb, vc, some (.bl false), some (.int (m : Int)), vf] ∧ Same Ho H')
                ⟨vf, rfl, fun _ _ e => e⟩ (fun i σ H6 _ h => by obtain ⟨_, _, e⟩ := h; exact SqL.of (e _ _ hrr)) ?_ ?_
              · rintro j z σ Hp hz ⟨vf, rfl, sop⟩
                obtain ⟨a, ds', rfl, ha, hF, hdl, hdv⟩ := hrows j z hz
                have sap := Same.trans sao sop
                have htp := sap _ _ htt
                have hap := sop _ _ ha
                have hbe : ∀ {Q2 : Bool → L2.Hp → Prop}, (∀ H', Same Hp H' → Q2 false H') → (ds'.length < (u ++ [0]).length ∨ (ds'.length = (u ++ [0]).length ∧ HT.lexLt ds' (u ++ [0]) = true)) →
                    tTest (tOp (rNeD (cxOf CX0 P w K mg base nLaw "law" (defScope sLaw) f cdv A outer s H E).nox.K) (tD spBeh (tCons (tVar 4) (tCons (tVar 15) tNil))) (tD spBeh (tCons (tVar 5) (tCons (tVar 15) tNil)))) [some (.ref a0), some (.ref b), some (.int (0 + (i : Int))), some (.int (q : Int)), some (.ref t), some (.ref t'), some (.ref x), some (.ref y), some (.ref tt), some (.ref qs), some (.ref qw), vb, vc, some (.bl false), some (.int (m : Int)), some (.ref a)] Hp Q2 := by
                  intro Q2 kQ hlt
                  have e := least_eq hp2.1 hu hF hlt
                  refine ⟨_, rfl, _, rfl, t, a, _, M, st, ds', rfl, AM.same sap, hOk, hap, hF, by omega, fun Hq r1 s1 hr10 hr1 => ?_⟩
                  refine ⟨_, rfl, _, rfl, t', a, _, N, sd, ds', rfl, AN.same (Same.trans sap s1), hO2, s1 _ _ hap, hF, by omega, fun Hr r2 s2 hr20 hr2 => ?_⟩
                  refine ne_tu2 (s2 _ _ hr1) hr2 ⟨_, rfl, ?_⟩
                  rw [show (!decide (behM (q : Int) M st ds' = behM (q : Int) N sd ds')) = false by rw [e]; simp]
                  exact kQ _ (Same.trans s1 s2)
                try dsimp (config := { proj := false }) only [gName, List.set_cons_succ, List.set_cons_zero]
                refine ⟨_, rfl, _, rfl, tt, _, rfl, .inr (SqT.of htp), _, _, rfl, rfl, _, rfl, ?_⟩
                rw [List.length_map]
                by_cases c : m < (u ++ [0]).length
                · have eM : decide ((m : Int) < (((u ++ [0] : List Int).length : Nat) : Int)) = true := decide_eq_true (by omega)
                  rw [eM]
                  refine iteT ?_
                  refine iteT ?_
                  refine hbe (fun H' sH => ?_) (.inl (by omega))
                  refine iteF ?_
                  exact ⟨_, rfl, Same.trans sop sH⟩
                · have eM : decide ((m : Int) < (((u ++ [0] : List Int).length : Nat) : Int)) = false := decide_eq_false (by omega)
                  rw [eM]
                  refine iteF ?_
                  refine ⟨_, rfl, _, rfl, a, tt, ds', u ++ [0], rfl, rfl, SqT.of hap, SqT.of htp, _, rfl, ?_⟩
                  cases hx : HT.lexLt ds' (u ++ [0]) with
                  | true =>
                    refine iteT ?_
                    refine hbe (fun H' sH => ?_) (.inr ⟨by omega, hx⟩)
                    refine iteF ?_
                    exact ⟨_, rfl, Same.trans sop sH⟩
                  | false =>
                    refine iteF ?_
                    refine iteF ?_
                    exact ⟨_, rfl, sop⟩
              · rintro σ Hp ⟨vf, rfl, sop⟩
                exact ⟨_, _, rfl, Same.trans sao sop⟩
            · rintro σ Hn ⟨ve, vf, rfl, san⟩
              try dsimp (config := { proj := false }) only [gName, List.set_cons_succ, List.set_cons_zero]
              -- the other way round
              obtain ⟨R', hR'⟩ := run_ex hO2 hOk (by rw [Nat.mul_comm]; exact Nat.le_trans hmn (by decide))
              obtain ⟨hSn, hSs⟩ := spec1 hO2 hOk hR'
              refine ⟨_, rfl, _, rfl, rfl, y, x, _, N, M, sd, st, rfl, YY.same san, hO2, XX.same san, hOk, _, R', hR', fun Ho tv' so hTV' => ?_⟩
              rcases hTV' with ⟨rfl, _⟩ | ⟨ds2, t2', rfl, rfl, ht2⟩
              · exact (hSn rfl u hu.1 (least_sym hu).2.1).elim
              · obtain ⟨u2, rfl, hu2, _⟩ := hSs ds2 rfl
                obtain rfl := least_uniq hp2.1 hu (least_sym hu2)
                refine ⟨_, rfl, ?_⟩
                refine ne_tu2 ht2 (so _ _ (san _ _ htt)) ⟨_, rfl, ?_⟩
                rw [show (!decide (u ++ [0] = u ++ [0])) = false by simp]
                refine iteF ?_
                exact ⟨_, _, _, _, _, _, _, _, _, _, _, _, _, _, rfl, BB.same (Same.trans san so)⟩
      · rw [show (!decide (ws = [])) = true by simp [cw]]
        refine iteT ?_
        obtain ⟨ws0, cc, rfl⟩ : ∃ ws0 cc, ws = ws0 ++ [cc] := ⟨ws.dropLast, ws.getLast cw, (List.dropLast_concat_getLast cw).symm⟩
        rw [List.length_append] at lwx hwl
        replace lwx : wxs.length = ws0.length + 1 := lwx
        replace hwl : ws0.length + 1 ≤ 1 + 7 * ks.length := hwl
        have hxl : ws0.length < wxs.length := by omega
        obtain ⟨kc, ekc, hkc⟩ := hws.2 ws0.length _ cc (List.getElem?_eq_getElem hxl) (by rw [List.getElem?_append_right (Nat.le_refl _), Nat.sub_self]; rfl)
        have hlast : wxs[wxs.length - 1]? = some (.ref kc) := by
          rw [show wxs.length - 1 = ws0.length by omega, List.getElem?_eq_getElem hxl, ekc]
        refine ⟨fun σ' H3 => ∃ (ks' ws' : List Key2) (vb vc : Option V) (qw : Addr) (sxs wxs : List V), (33 - ks'.length) * 8 + ws'.length < (33 - ks.length) * 8 + (ws0 ++ [cc]).length ∧ σ' = [some (.ref a0), some (.ref b), some (.int (0 + (i : Int))), some (.int (q : Int)), some (.ref t), some (.ref t'), some (.ref x), some (.ref y), some tv, some (.ref qs), some (.ref qw), vb, vc, vd, ve, vf] ∧ Same Ha H3 ∧
          H3 qs = some (.lst sxs) ∧ KysAt H3 sxs ks' ∧ H3 qw = some (.lst wxs) ∧ KysAt H3 wxs ws' ∧ qs ≠ qw ∧ Ha qw = none ∧ DfsW (q : Int) M N st sd ks' ws' ∧ ws'.length ≤ 1 + 7 * ks'.length,
          fun σ' H3 ⟨ks', ws', vb, vc, qw, sxs, wxs, hlt, rest⟩ => ⟨_, hlt, ks', ws', vb, vc, qw, sxs, wxs, rfl, rest⟩, ?_⟩
        refine ⟨_, rfl, .inl ⟨rfl, _, SqL.of hqw⟩, qw, wxs, .ref kc, rfl, rfl, hqw, hlast, ?_⟩
        have hqs1 : (upd Hf qw (.lst wxs.dropLast)) qs = some (.lst sxs) := by rw [upd_ne nsw]; exact hqs
        have hks1 := hks.lst (zs := wxs.dropLast) hqw
        have hws1 := (kys_drop hws).lst (zs := wxs.dropLast) hqw
        have hkc1 : KyAt (upd Hf qw (.lst wxs.dropLast)) (.ref kc) cc := KyAt.lst ⟨kc, rfl, hkc⟩ hqw
        have sf1 : Same Ha (upd Hf qw (.lst wxs.dropLast)) := same_put se hqwN
        have hqw1 : (upd Hf qw (.lst wxs.dropLast)) qw = some (.lst wxs.dropLast) := upd_same
        generalize upd Hf qw (.lst wxs.dropLast) = Hg at hqs1 hks1 hws1 hkc1 sf1 hqw1 ⊢
        try dsimp (config := { proj := false }) only [gName, List.set_cons_succ, List.set_cons_zero]
        refine ⟨_, rfl, _, rfl, notIn_keys hkc1 hqs1 hks1 ⟨_, rfl, ?_⟩⟩
        by_cases hc : cc ∈ ks
        · rw [show (!decide (cc ∈ ks)) = false by simp [hc]]
          refine iteF ?_
          exact ⟨ks, ws0, _, vc, qw, sxs, wxs.dropLast, by rw [List.length_append]; show _ < _ + (ws0.length + 1); omega, rfl, sf1, hqs1, hks1, hqw1, hws1, nsw, hqwN, hD.old hc, by omega⟩
        · rw [show (!decide (cc ∈ ks)) = true by simp [hc]]
          refine iteT ?_
          have hDn := hD.new hc
          have hkl2 := Nat.le_trans (hDn.len hOk hO2) hmn
          rw [List.length_append] at hkl2
          replace hkl2 : ks.length + 1 ≤ 32 := hkl2
          rw [Int.toNat_natCast] at hDn
          refine ⟨_, rfl, .inl ⟨rfl, _, SqL.of hqs1⟩, _, rfl, qs, _, _, rfl, rfl, hqs1, small1000 (by omega), ?_⟩
          have hqs2 : (upd Hg qs (.lst (sxs ++ [.ref kc]))) qs = some (.lst (sxs ++ [.ref kc])) := upd_same
          have hks2 := (hks1.snoc hkc1).lst (zs := sxs ++ [.ref kc]) hqs1
          have hqw2 : (upd Hg qs (.lst (sxs ++ [.ref kc]))) qw = some (.lst wxs.dropLast) := by rw [upd_ne nsw.symm]; exact hqw1
          have hws2 := hws1.lst (zs := sxs ++ [.ref kc]) hqs1
          have hkc2 := hkc1.lst (zs := sxs ++ [.ref kc]) hqs1
          have sf2 : Same Ha (upd Hg qs (.lst (sxs ++ [.ref kc]))) := same_put sf1 hqsN
          generalize upd Hg qs (.lst (sxs ++ [.ref kc])) = Hh at hqs2 hks2 hqw2 hws2 hkc2 sf2 ⊢
          refine ⟨_, rfl, _, rfl, _, rfl, by omega, by omega, fun D hDD => ?_⟩
          rw [Int.toNat_natCast]
          refine lcNR (K := K) (n := q) (R := fun i y H => ∃ e, y = .ref e ∧ e ≠ D ∧ H e = some (.tup [.int (scW M N cc (i : Int)).1, .int (scW M N cc (i : Int)).2])) hDD (small1000 (by omega)) (fun i y H H' e ⟨e1, z1, z2, z3⟩ => ⟨e1, z1, z2, e _ _ z3⟩) (fun i y H zs ⟨e1, z1, z2, z3⟩ => ⟨e1, z1, z2, by rw [upd_ne z2]; exact z3⟩) ?_ ?_ gm_name
          · intro j Hi Qk hj si hys kk
            obtain ⟨yy, hyy⟩ := hys
            obtain ⟨v, fv, ecc⟩ := hD.re cc (.inr (List.mem_append_right _ (List.mem_singleton.mpr rfl)))
            obtain ⟨kd, ekd, hkd⟩ := hkc2
            injection ekd with ekd
            subst ekd
            have a1 := runM_in hOk.ok rfl v hOk.st0 hOk.st1 fv
            have a2 := runM_in hO2.ok rfl v hO2.st0 hO2.st1 fv
            rw [show runM M st v = cc.1 by rw [ecc]] at a1
            rw [show runM N sd v = cc.2 by rw [ecc]] at a2
            obtain ⟨b1', g1, hat1, hb1, hg1, hmem1⟩ := rowAtW hm3 a1.1 a1.2
            obtain ⟨b2', g2, hat2, hb2, hg2, hmem2⟩ := rowAtW hn3 a2.1 a2.2
            have lg1 := hOk.ok.many _ hmem1
            have lg2 := hO2.ok.many _ hmem2
            have ea1 := at_ints (l := (M.getD cc.1.toNat (0, [])).2) (d := (j : Int)) (by omega) (by omega)
            have ea2 := at_ints (l := (N.getD cc.2.toNat (0, [])).2) (d := (j : Int)) (by omega) (by omega)
            have sai := Same.trans sf2 si
            refine ⟨rfl, ?_⟩
            refine ⟨_, rfl, t, _, 1, _, rfl, rfl, SqT.of (sai _ _ hm1), rfl, _, rfl, kc, _, 0, _, rfl, rfl, SqT.of (si _ _ hkd), rfl, mr, mxs, _, _, rfl, rfl, SqL.of (sai _ _ hm2), hat1, b1', _, 1, _, rfl, rfl, SqT.of (sai _ _ hb1), rfl, _, rfl, g1, _, _, _, rfl, rfl, SqT.of (sai _ _ hg1), ea1,
              _, rfl, t', _, 1, _, rfl, rfl, SqT.of (sai _ _ hn1), rfl, _, rfl, kc, _, 1, _, rfl, rfl, SqT.of (si _ _ hkd), rfl, nr, nxs, _, _, rfl, rfl, SqL.of (sai _ _ hn2), hat2, b2', _, 1, _, rfl, rfl, SqT.of (sai _ _ hb2), rfl, _, rfl, g2, _, _, _, rfl, rfl, SqT.of (sai _ _ hg2), ea2, by show 2 ≤ sizeLine; decide, fun e he => ?_⟩
            exact kk (.ref e) _ (same_new he) ⟨e, rfl, (ne_of_none hyy he).symm, upd_same⟩
          · intro ys Hi si hDi hyl hRR
            refine cat_lst (si _ _ hqw2) hDi (by rw [List.length_dropLast, hyl]; omega) fun qn Hj sj hqn0 hqn => ?_
            have sij := Same.trans si sj
            have hYs : KysAt Hj ys ((List.range q).map fun x : Nat => scW M N cc (x : Int)) := ⟨by rw [hyl, List.length_map, List.length_range], fun i v k h1 h2 => by
              have hi : i < q := by rw [← hyl]; exact (List.getElem?_eq_some_iff.mp h1).1
              rw [List.getElem?_map, List.getElem?_range hi] at h2
              obtain rfl := (Option.some.inj h2).symm
              obtain ⟨e, z1, _, z3⟩ := hRR i v h1
              exact ⟨e, z1, sj _ _ z3⟩⟩
            refine ⟨ks ++ [cc], ws0 ++ (List.range q).map (fun x : Nat => scW M N cc (x : Int)), _, _, qn, _, _, ?_, rfl, Same.trans sf2 sij, sij _ _ hqs2, hks2.same sij, hqn, kys_app (hws2.same sij) hYs, ne_of_none (si _ _ hqs2) hqn0, Same.free (Same.trans sf2 si) hqn0, hDn, ?_⟩
            · rw [List.length_append, List.length_append, List.length_append, List.length_map, List.length_range]
              show (33 - (ks.length + 1)) * 8 + (ws0.length + q) < (33 - ks.length) * 8 + (ws0.length + 1)
              omega
            · rw [List.length_append, List.length_append, List.length_map, List.length_range]
              show ws0.length + q ≤ 1 + 7 * (ks.length + 1)
              omega
    · rintro σ H' ⟨v2, v3, v4, v5, v6, v7, v8, v9, va, vb, vc, vd, ve, vf, rfl, hB⟩
      exact k H'
end

theorem df_mk {P : Program} {w : World} {K : PySem.W.Frag} {mg : Str → Option Value} {base : Heap} {k : Nat} {x : Str} {ps : List Str} {sp : Sp} {f : Addr} {fd : FuncData} (hm : mg x = some (.ref f)) (hk : PySem.W.keepIn K (.ref f) = true) (hb : Binds K fd ps []) (F : FnOk P w K mg base CX0 k f fd ps sp) : Df P w K mg base k x ps sp := ⟨⟨f, fd, hm, hk, hb, F⟩⟩
theorem same_all {P : Program} {w : World} {K : PySem.W.Frag} {mg : Str → Option Value} {base : Heap} {f : Addr} {fd : FuncData} (F : Fun K "_law_same" "_law_same" sSame f fd) (B : Bn mg) (bs : mg "str" = none) (hm : mg "_law_same" = some (.ref f)) (hk : PySem.W.keepIn K (.ref f) = true) (hb : Binds K fd ["_law_found", "_law_due"] []) :
    ∀ n, FnOk P w K mg base CX0 n f fd ["_law_found", "_law_due"] (spS K n)
  | 0 => ⟨fun vs H Q E h => h.elim, fun A outer s H args us vs Q E _ _ _ _ h => h.elim⟩
  | n + 1 => ok_same F B bs (df_mk hm hk hb (same_all F B bs hm hk hb n))
theorem dx_mk {P : Program} {w : World} {K : PySem.W.Frag} {mg : Str → Option Value} {base : Heap} {k : Nat} {x : Str} {ps : List Str} {sp : Sp} {f : Addr} {fd : FuncData} (hm : mg x = some (.ref f)) (hk : PySem.W.keepIn K (.ref f) = true) (hb : Binds K fd ps []) (F : FnOk P w K mg base (L2.CX P w) k f fd ps sp) : Dx P w K mg base k x ps sp := ⟨⟨f, fd, hm, hk, hb, F⟩⟩
abbrev sPrm : Stmt := inClass (top 36) 4
theorem sc_sPrm : FnScope ["self"] ["self"] (defScope sPrm) := ⟨rfl, rfl, rfl, by decide +kernel, rfl, by decide +kernel, by decide +kernel⟩
abbrev sStt : Stmt := inClass (top 36) 5
theorem sc_sStt : FnScope ["self"] ["self"] (defScope sStt) := ⟨rfl, rfl, rfl, by decide +kernel, rfl, by decide +kernel, by decide +kernel⟩

def nsL0 : List Str := ["_wall", "copied", "TurnError", "Missing", "InvalidPrime", "InvalidFigure", "InvalidSetting", "InvalidState", "InvalidStart", "InvalidText", "PrimesDiffer", "TooMany", "UnknownState", "PRIMES", "MOST_DIALS", "is_number", "is_below", "check_prime", "is_setting", "check_setting", "DIGITS", "is_numeral", "MOST_DIGITS", "_is_state", "_first_wrong", "_pairs_behind", "_product_states", "_state_text", "_read_number", "_halves"]
def nsL1 : List Str := ["_read_state", "Turner", "_way", "first_difference", "is_same", "_law_bag", "_law_pull", "_law_of", "_law_mixed", "_law_same", "_law_prime", "_law_figures", "_law_plain", "_law_made", "_law_way", "_law_behind", "_law_all_rows", "_law_few", "_law_doubled", "_law_bent", "law"]
def nsL : List Str := nsL0 ++ nsL1
def fsL0 : List FdO := [⟨fun K => He.ga K "is_number", "is_number", "is_number", defArgs sNum, defBody sNum, defScope sNum, [], []⟩,
  ⟨fun K => He.ga K "is_below", "is_below", "is_below", defArgs sBel, defBody sBel, defScope sBel, [], []⟩,
  ⟨fun K => He.ga K "check_prime", "check_prime", "check_prime", defArgs sChP, defBody sChP, defScope sChP, [], []⟩,
  ⟨fun K => He.ga K "copied", "copied", "copied", defArgs sCp, defBody sCp, defScope sCp, [], []⟩,
  ⟨fun K => He.ga K "_is_state", "_is_state", "_is_state", defArgs sIsSt, defBody sIsSt, defScope sIsSt, [], []⟩,
  ⟨fun K => He.ga K "_first_wrong", "_first_wrong", "_first_wrong", defArgs sFirst, defBody sFirst, defScope sFirst, [], []⟩,
  ⟨fun K => He.ga K "_way", "_way", "_way", defArgs sWy, defBody sWy, defScope sWy, [], []⟩,
  ⟨fun K => He.ga K "first_difference", "first_difference", "first_difference", defArgs sFD, defBody sFD, defScope sFD, [], []⟩,
  ⟨fun K => He.ga K "is_same", "is_same", "is_same", defArgs sIsm, defBody sIsm, defScope sIsm, [], []⟩,
  ⟨fun K => He.ga K "_law_bag", "_law_bag", "_law_bag", defArgs sBag, defBody sBag, defScope sBag, [], []⟩,
  ⟨fun K => He.ga K "_law_pull", "_law_pull", "_law_pull", defArgs sPull, defBody sPull, defScope sPull, [], []⟩,
  ⟨fun K => He.ga K "_law_of", "_law_of", "_law_of", defArgs sOf, defBody sOf, defScope sOf, [], []⟩,
  ⟨fun K => He.ga K "_law_mixed", "_law_mixed", "_law_mixed", defArgs sMxd, defBody sMxd, defScope sMxd, [], []⟩,
  ⟨fun K => He.ga K "_law_same", "_law_same", "_law_same", defArgs sSame, defBody sSame, defScope sSame, [], []⟩,
  ⟨fun K => He.ga K "_law_prime", "_law_prime", "_law_prime", defArgs sPrime, defBody sPrime, defScope sPrime, [], []⟩,
  ⟨fun K => He.ga K "_law_figures", "_law_figures", "_law_figures", defArgs sFigs, defBody sFigs, defScope sFigs, [], []⟩,
  ⟨fun K => He.ga K "_law_plain", "_law_plain", "_law_plain", defArgs sPlain, defBody sPlain, defScope sPlain, [], []⟩,
  ⟨fun K => He.ga K "_law_made", "_law_made", "_law_made", defArgs sMade, defBody sMade, defScope sMade, [], []⟩,
  ⟨fun K => He.ga K "_law_way", "_law_way", "_law_way", defArgs sWay, defBody sWay, defScope sWay, [], []⟩,
  ⟨fun K => He.ga K "_law_behind", "_law_behind", "_law_behind", defArgs sBeh, defBody sBeh, defScope sBeh, [], []⟩]
def fsL1 : List FdO := [⟨fun K => He.ga K "_law_few", "_law_few", "_law_few", defArgs sFew, defBody sFew, defScope sFew, [], []⟩,
  ⟨fun K => He.ga K "_law_all_rows", "_law_all_rows", "_law_all_rows", defArgs sAll, defBody sAll, defScope sAll, [], []⟩,
  ⟨fun K => He.ga K "_law_bent", "_law_bent", "_law_bent", defArgs sBt, defBody sBt, defScope sBt, [], []⟩,
  ⟨fun K => He.ga K "_law_doubled", "_law_doubled", "_law_doubled", defArgs sDb, defBody sDb, defScope sDb, [], []⟩,
  ⟨fun K => He.ga K "law", "law", "law", defArgs sLaw, defBody sLaw, defScope sLaw, [], []⟩,
  ⟨fun K => (He.ma K (He.ga K "Turner") "states"), "states", "Turner.states", defArgs sStates, defBody sStates, defScope sStates, [], []⟩,
  ⟨fun K => (paA K "property" (He.ma K (He.ga K "Turner") "prime")), "prime", "Turner.prime", defArgs sPrm, defBody sPrm, defScope sPrm, [], []⟩,
  ⟨fun K => (paA K "property" (He.ma K (He.ga K "Turner") "start")), "start", "Turner.start", defArgs sStt, defBody sStt, defScope sStt, [], []⟩,
  ⟨fun K => (He.ma K (He.ga K "Turner") "__init__"), "__init__", "Turner.__init__", defArgs sInit, defBody sInit, defScope sInit, [], [("start", .int 0)]⟩,
  ⟨fun K => (He.ma K (He.ga K "PrimesDiffer") "__init__"), "__init__", "PrimesDiffer.__init__", defArgs sE_PrimesDiffer, defBody sE_PrimesDiffer, defScope sE_PrimesDiffer, ["__class__"], []⟩]
def fsL : List FdO := fsL0 ++ (fsL1)
def exL0 (K : Fg) : List Bool := [decide (PySem.W.nsIn K mainGlobals "is_number" = some (some (.ref (He.ga K "is_number")))),
  decide (PySem.W.nsIn K mainGlobals "is_below" = some (some (.ref (He.ga K "is_below")))),
  decide (PySem.W.nsIn K mainGlobals "check_prime" = some (some (.ref (He.ga K "check_prime")))),
  decide (PySem.W.nsIn K mainGlobals "copied" = some (some (.ref (He.ga K "copied")))),
  decide (PySem.W.nsIn K mainGlobals "_is_state" = some (some (.ref (He.ga K "_is_state")))),
  decide (PySem.W.nsIn K mainGlobals "_first_wrong" = some (some (.ref (He.ga K "_first_wrong")))),
  decide (PySem.W.nsIn K mainGlobals "_way" = some (some (.ref (He.ga K "_way")))),
  decide (PySem.W.nsIn K mainGlobals "first_difference" = some (some (.ref (He.ga K "first_difference")))),
  decide (PySem.W.nsIn K mainGlobals "is_same" = some (some (.ref (He.ga K "is_same")))),
  decide (PySem.W.nsIn K mainGlobals "_law_bag" = some (some (.ref (He.ga K "_law_bag")))),
  decide (PySem.W.nsIn K mainGlobals "_law_pull" = some (some (.ref (He.ga K "_law_pull")))),
  decide (PySem.W.nsIn K mainGlobals "_law_of" = some (some (.ref (He.ga K "_law_of")))),
  decide (PySem.W.nsIn K mainGlobals "_law_mixed" = some (some (.ref (He.ga K "_law_mixed")))),
  decide (PySem.W.nsIn K mainGlobals "_law_same" = some (some (.ref (He.ga K "_law_same")))),
  decide (PySem.W.nsIn K mainGlobals "_law_prime" = some (some (.ref (He.ga K "_law_prime")))),
  decide (PySem.W.nsIn K mainGlobals "_law_figures" = some (some (.ref (He.ga K "_law_figures")))),
  decide (PySem.W.nsIn K mainGlobals "_law_plain" = some (some (.ref (He.ga K "_law_plain")))),
  decide (PySem.W.nsIn K mainGlobals "_law_made" = some (some (.ref (He.ga K "_law_made")))),
  decide (PySem.W.nsIn K mainGlobals "_law_way" = some (some (.ref (He.ga K "_law_way")))),
  decide (PySem.W.nsIn K mainGlobals "_law_behind" = some (some (.ref (He.ga K "_law_behind")))),
  decide (PySem.W.nsIn K mainGlobals "_law_few" = some (some (.ref (He.ga K "_law_few")))),
  decide (PySem.W.nsIn K mainGlobals "_law_all_rows" = some (some (.ref (He.ga K "_law_all_rows")))),
  decide (PySem.W.nsIn K mainGlobals "_law_bent" = some (some (.ref (He.ga K "_law_bent")))),
  decide (PySem.W.nsIn K mainGlobals "_law_doubled" = some (some (.ref (He.ga K "_law_doubled")))),
  decide (PySem.W.nsIn K mainGlobals "law" = some (some (.ref (He.ga K "law"))))]
def exL1 (K : Fg) : List Bool := [decide (PySem.W.nsIn K mainGlobals "len" = some none),
  decide (PySem.W.nsIn K mainGlobals "int" = some none),
  decide (PySem.W.nsIn K mainGlobals "abs" = some none),
  decide (PySem.W.nsIn K mainGlobals "list" = some none),
  decide (PySem.W.nsIn K mainGlobals "tuple" = some none),
  decide (PySem.W.nsIn K mainGlobals "range" = some none),
  decide (PySem.W.nsIn K mainGlobals "isinstance" = some none),
  decide (PySem.W.nsIn K mainGlobals "all" = some none),
  decide (PySem.W.nsIn K mainGlobals "zip" = some none),
  decide (PySem.W.nsIn K mainGlobals "enumerate" = some none),
  decide (PySem.W.nsIn K mainGlobals "bool" = some none),
  decide (PySem.W.nsIn K mainGlobals "str" = some none),
  decide (PySem.W.nsIn K mainGlobals "super" = some none),
  decide (PySem.W.nsIn K mainGlobals "min" = some none),
  intB K "MOST_DIALS" 200,
  tup4 K (He.ga K "PRIMES") 2 3 5 7,
  decide (PySem.W.nsIn K mainGlobals "PRIMES" = some (some (.ref (He.ga K "PRIMES")))),
  decide (PySem.W.nsIn K mainGlobals "Turner" = some (some (.ref (He.ga K "Turner")))),
  decide (PySem.W.findIn K (.ref (He.ga K "Turner")) "states" = some (some (.ref (He.ma K (He.ga K "Turner") "states")))),
  PySem.W.isFn K (.ref (He.ma K (He.ga K "Turner") "states")),
  decide (PySem.W.findIn K (.ref (He.ga K "Turner")) "prime" = some (some (.ref (He.ma K (He.ga K "Turner") "prime")))),
  decide (PySem.W.specialIn K (.ref (He.ma K (He.ga K "Turner") "prime")) "__get__" = some (some (.builtin "property.__get__"))),
  decide (PySem.W.takesIn K (.ref (He.ma K (He.ga K "Turner") "prime")) = some true),
  recB K "property" (He.ma K (He.ga K "Turner") "prime"),
  decide (PySem.W.findIn K (.ref (He.ga K "Turner")) "start" = some (some (.ref (He.ma K (He.ga K "Turner") "start"))))]
def exL2 (K : Fg) : List Bool := [decide (PySem.W.specialIn K (.ref (He.ma K (He.ga K "Turner") "start")) "__get__" = some (some (.builtin "property.__get__"))),
  decide (PySem.W.takesIn K (.ref (He.ma K (He.ga K "Turner") "start")) = some true),
  recB K "property" (He.ma K (He.ga K "Turner") "start"),
  decide (PySem.W.findIn K (.ref (He.ga K "Turner")) "__init__" = some (some (.ref (He.ma K (He.ga K "Turner") "__init__")))),
  PySem.W.isFn K (.ref (He.ma K (He.ga K "Turner") "__init__")),
  PySem.W.plainGet K (He.ga K "Turner") Str.empty,
  PySem.W.hasDictIn K (He.ga K "Turner"),
  PySem.W.plainOver K (He.ga K "Turner"),
  decide (PySem.W.findIn K (.ref (He.ga K "Turner")) "__setattr__" = some (some (.builtin "object.__setattr__"))),
  decide (PySem.W.findIn K (.ref (He.ga K "Turner")) "_prime" = some none),
  decide (PySem.W.findIn K (.ref (He.ga K "Turner")) "_states" = some none),
  decide (PySem.W.findIn K (.ref (He.ga K "Turner")) "_start" = some none),
  PySem.W.readsIn K (He.ga K "Turner") (.type "type"),
  decide (PySem.W.specialIn K (.ref (He.ga K "Turner")) "__getattribute__" = some (some (.builtin "type.__getattribute__"))),
  conB K (He.ga K "Turner") "MOST" 240,
  PySem.W.makesIn K (He.ga K "Turner"),
  PySem.W.keepIn K (.ref (He.ga K "Turner")),
  cdB K (He.ma K (He.ga K "PrimesDiffer") "__init__") ("/claim/cut.py" : Str),
  decide (PySem.W.nsIn K mainGlobals "PrimesDiffer" = some (some (.ref (He.ga K "PrimesDiffer")))),
  cellB K (ccA K (He.ma K (He.ga K "PrimesDiffer") "__init__")) (He.ga K "PrimesDiffer"),
  decide (PySem.W.ks_superIn K (He.ga K "PrimesDiffer") (He.ga K "PrimesDiffer") "__init__" = some (some (.builtin "ValueError.__init__"))),
  decide (PySem.W.nsIn K cStatics "thirdparty.any" = some none),
  oexB K (He.ga K "PrimesDiffer"),
  errB K (He.ga K "PrimesDiffer") "PrimesDiffer",
  decide (PySem.W.findIn K (.ref (He.ga K "PrimesDiffer")) "code" = some none)]
def exL3 (K : Fg) : List Bool := [decide (PySem.W.findIn K (.ref (He.ga K "PrimesDiffer")) "details" = some none),
  decide (PySem.W.findIn K (.ref (He.ga K "PrimesDiffer")) "__init__" = some (some (.ref (He.ma K (He.ga K "PrimesDiffer") "__init__")))),
  decide (PySem.W.typeIn K (.ref (He.ma K (He.ga K "PrimesDiffer") "__init__")) = some (.type "function"))]
def exL (K : Fg) : List Bool := exL0 K ++ (exL1 K ++ (exL2 K ++ (exL3 K)))
theorem all_t {l : PySem.W.OpenLaw} {w : World} {K : PySem.W.Frag} {h : Heap} {mg : Str → Option Value} {fa : Addr} (hfl : l.prog.main.file = ("/claim/cut.py" : Str)) (hsu : (l.prog.main.scope.names.lookup ("super" : Str)).isSome = false) (X : K.In h) (G : h.Ns mainGlobals mg) (hfa : mg "law" = some (.ref fa)) (c : SaysO fsL exL K) :
    ∃ fd : FuncData, (∀ (s : Shared) (v : Value), BindsTo s fd ⟨[v], []⟩ [("_law_script", v)]) ∧ ∀ base : Heap, K.In base → base.Ns mainGlobals mg → FnOk l.prog w K mg base CX0 16 fa fd ["_law_script"] (spLaw K) := by
  obtain ⟨oc0, od0, sl0, kV0, dc0, pm0, an0, cd0, ct0, l0, c0, k0⟩ := says_lk c 0 rfl
  have F0 := fun_mk (st := sNum) l0 c0 k0
  have b0 := F0.binds (ps := ["value"]) fun _ _ _ _ _ _ us hl => match us, hl with | [_], _ => rfl
  have g0 := PySem.W.mg_of X G (show PySem.W.nsIn K mainGlobals "is_number" = some (some (.ref (He.ga K "is_number"))) from of_decide_eq_true (says_ex c 0 rfl))
  obtain ⟨oc1, od1, sl1, kV1, dc1, pm1, an1, cd1, ct1, l1, c1, k1⟩ := says_lk c 1 rfl
  have F1 := fun_mk (st := sBel) l1 c1 k1
  have b1 := F1.binds (ps := ["value", "bound"]) fun _ _ _ _ _ _ us hl => match us, hl with | [_, _], _ => rfl
  have g1 := PySem.W.mg_of X G (show PySem.W.nsIn K mainGlobals "is_below" = some (some (.ref (He.ga K "is_below"))) from of_decide_eq_true (says_ex c 1 rfl))
  obtain ⟨oc2, od2, sl2, kV2, dc2, pm2, an2, cd2, ct2, l2, c2, k2⟩ := says_lk c 2 rfl
  have F2 := fun_mk (st := sChP) l2 c2 k2
  have b2 := F2.binds (ps := ["prime"]) fun _ _ _ _ _ _ us hl => match us, hl with | [_], _ => rfl
  have g2 := PySem.W.mg_of X G (show PySem.W.nsIn K mainGlobals "check_prime" = some (some (.ref (He.ga K "check_prime"))) from of_decide_eq_true (says_ex c 2 rfl))
  obtain ⟨oc3, od3, sl3, kV3, dc3, pm3, an3, cd3, ct3, l3, c3, k3⟩ := says_lk c 3 rfl
  have F3 := fun_mk (st := sCp) l3 c3 k3
  have b3 := F3.binds (ps := ["value"]) fun _ _ _ _ _ _ us hl => match us, hl with | [_], _ => rfl
  have g3 := PySem.W.mg_of X G (show PySem.W.nsIn K mainGlobals "copied" = some (some (.ref (He.ga K "copied"))) from of_decide_eq_true (says_ex c 3 rfl))
  obtain ⟨oc4, od4, sl4, kV4, dc4, pm4, an4, cd4, ct4, l4, c4, k4⟩ := says_lk c 4 rfl
  have F4 := fun_mk (st := sIsSt) l4 c4 k4
  have b4 := F4.binds (ps := ["prime", "value", "many"]) fun _ _ _ _ _ _ us hl => match us, hl with | [_, _, _], _ => rfl
  have g4 := PySem.W.mg_of X G (show PySem.W.nsIn K mainGlobals "_is_state" = some (some (.ref (He.ga K "_is_state"))) from of_decide_eq_true (says_ex c 4 rfl))
  obtain ⟨oc5, od5, sl5, kV5, dc5, pm5, an5, cd5, ct5, l5, c5, k5⟩ := says_lk c 5 rfl
  have F5 := fun_mk (st := sFirst) l5 c5 k5
  have b5 := F5.binds (ps := ["prime", "states"]) fun _ _ _ _ _ _ us hl => match us, hl with | [_, _], _ => rfl
  have g5 := PySem.W.mg_of X G (show PySem.W.nsIn K mainGlobals "_first_wrong" = some (some (.ref (He.ga K "_first_wrong"))) from of_decide_eq_true (says_ex c 5 rfl))
  obtain ⟨oc6, od6, sl6, kV6, dc6, pm6, an6, cd6, ct6, l6, c6, k6⟩ := says_lk c 6 rfl
  have F6 := fun_mk (st := sWy) l6 c6 k6
  have b6 := F6.binds (ps := ["steps", "at"]) fun _ _ _ _ _ _ us hl => match us, hl with | [_, _], _ => rfl
  have g6 := PySem.W.mg_of X G (show PySem.W.nsIn K mainGlobals "_way" = some (some (.ref (He.ga K "_way"))) from of_decide_eq_true (says_ex c 6 rfl))
  obtain ⟨oc7, od7, sl7, kV7, dc7, pm7, an7, cd7, ct7, l7, c7, k7⟩ := says_lk c 7 rfl
  have F7 := fun_mk (st := sFD) l7 c7 k7
  have b7 := F7.binds (ps := ["one", "other"]) fun _ _ _ _ _ _ us hl => match us, hl with | [_, _], _ => rfl
  have g7 := PySem.W.mg_of X G (show PySem.W.nsIn K mainGlobals "first_difference" = some (some (.ref (He.ga K "first_difference"))) from of_decide_eq_true (says_ex c 7 rfl))
  obtain ⟨oc8, od8, sl8, kV8, dc8, pm8, an8, cd8, ct8, l8, c8, k8⟩ := says_lk c 8 rfl
  have F8 := fun_mk (st := sIsm) l8 c8 k8
  have b8 := F8.binds (ps := ["one", "other"]) fun _ _ _ _ _ _ us hl => match us, hl with | [_, _], _ => rfl
  have g8 := PySem.W.mg_of X G (show PySem.W.nsIn K mainGlobals "is_same" = some (some (.ref (He.ga K "is_same"))) from of_decide_eq_true (says_ex c 8 rfl))
  obtain ⟨oc9, od9, sl9, kV9, dc9, pm9, an9, cd9, ct9, l9, c9, k9⟩ := says_lk c 9 rfl
  have F9 := fun_mk (st := sBag) l9 c9 k9
  have b9 := F9.binds (ps := ["_law_script"]) fun _ _ _ _ _ _ us hl => match us, hl with | [_], _ => rfl
  have g9 := PySem.W.mg_of X G (show PySem.W.nsIn K mainGlobals "_law_bag" = some (some (.ref (He.ga K "_law_bag"))) from of_decide_eq_true (says_ex c 9 rfl))
  obtain ⟨oc10, od10, sl10, kV10, dc10, pm10, an10, cd10, ct10, l10, c10, k10⟩ := says_lk c 10 rfl
  have F10 := fun_mk (st := sPull) l10 c10 k10
  have b10 := F10.binds (ps := ["_law_bag_here", "_law_many"]) fun _ _ _ _ _ _ us hl => match us, hl with | [_, _], _ => rfl
  have g10 := PySem.W.mg_of X G (show PySem.W.nsIn K mainGlobals "_law_pull" = some (some (.ref (He.ga K "_law_pull"))) from of_decide_eq_true (says_ex c 10 rfl))
  obtain ⟨oc11, od11, sl11, kV11, dc11, pm11, an11, cd11, ct11, l11, c11, k11⟩ := says_lk c 11 rfl
  have F11 := fun_mk (st := sOf) l11 c11 k11
  have b11 := F11.binds (ps := ["_law_bag_here", "_law_some"]) fun _ _ _ _ _ _ us hl => match us, hl with | [_, _], _ => rfl
  have g11 := PySem.W.mg_of X G (show PySem.W.nsIn K mainGlobals "_law_of" = some (some (.ref (He.ga K "_law_of"))) from of_decide_eq_true (says_ex c 11 rfl))
  obtain ⟨oc12, od12, sl12, kV12, dc12, pm12, an12, cd12, ct12, l12, c12, k12⟩ := says_lk c 12 rfl
  have F12 := fun_mk (st := sMxd) l12 c12 k12
  have b12 := F12.binds (ps := ["_law_bag_here", "_law_some"]) fun _ _ _ _ _ _ us hl => match us, hl with | [_, _], _ => rfl
  have g12 := PySem.W.mg_of X G (show PySem.W.nsIn K mainGlobals "_law_mixed" = some (some (.ref (He.ga K "_law_mixed"))) from of_decide_eq_true (says_ex c 12 rfl))
  obtain ⟨oc13, od13, sl13, kV13, dc13, pm13, an13, cd13, ct13, l13, c13, k13⟩ := says_lk c 13 rfl
  have F13 := fun_mk (st := sSame) l13 c13 k13
  have b13 := F13.binds (ps := ["_law_found", "_law_due"]) fun _ _ _ _ _ _ us hl => match us, hl with | [_, _], _ => rfl
  have g13 := PySem.W.mg_of X G (show PySem.W.nsIn K mainGlobals "_law_same" = some (some (.ref (He.ga K "_law_same"))) from of_decide_eq_true (says_ex c 13 rfl))
  obtain ⟨oc14, od14, sl14, kV14, dc14, pm14, an14, cd14, ct14, l14, c14, k14⟩ := says_lk c 14 rfl
  have F14 := fun_mk (st := sPrime) l14 c14 k14
  have b14 := F14.binds (ps := ["_law_bag_here"]) fun _ _ _ _ _ _ us hl => match us, hl with | [_], _ => rfl
  have g14 := PySem.W.mg_of X G (show PySem.W.nsIn K mainGlobals "_law_prime" = some (some (.ref (He.ga K "_law_prime"))) from of_decide_eq_true (says_ex c 14 rfl))
  obtain ⟨oc15, od15, sl15, kV15, dc15, pm15, an15, cd15, ct15, l15, c15, k15⟩ := says_lk c 15 rfl
  have F15 := fun_mk (st := sFigs) l15 c15 k15
  have b15 := F15.binds (ps := ["_law_bag_here", "_law_p", "_law_many"]) fun _ _ _ _ _ _ us hl => match us, hl with | [_, _, _], _ => rfl
  have g15 := PySem.W.mg_of X G (show PySem.W.nsIn K mainGlobals "_law_figures" = some (some (.ref (He.ga K "_law_figures"))) from of_decide_eq_true (says_ex c 15 rfl))
  obtain ⟨oc16, od16, sl16, kV16, dc16, pm16, an16, cd16, ct16, l16, c16, k16⟩ := says_lk c 16 rfl
  have F16 := fun_mk (st := sPlain) l16 c16 k16
  have b16 := F16.binds (ps := ["_law_bag_here", "_law_p", "_law_top"]) fun _ _ _ _ _ _ us hl => match us, hl with | [_, _, _], _ => rfl
  have g16 := PySem.W.mg_of X G (show PySem.W.nsIn K mainGlobals "_law_plain" = some (some (.ref (He.ga K "_law_plain"))) from of_decide_eq_true (says_ex c 16 rfl))
  obtain ⟨oc17, od17, sl17, kV17, dc17, pm17, an17, cd17, ct17, l17, c17, k17⟩ := says_lk c 17 rfl
  have F17 := fun_mk (st := sMade) l17 c17 k17
  have b17 := F17.binds (ps := ["_law_m"]) fun _ _ _ _ _ _ us hl => match us, hl with | [_], _ => rfl
  have g17 := PySem.W.mg_of X G (show PySem.W.nsIn K mainGlobals "_law_made" = some (some (.ref (He.ga K "_law_made"))) from of_decide_eq_true (says_ex c 17 rfl))
  obtain ⟨oc18, od18, sl18, kV18, dc18, pm18, an18, cd18, ct18, l18, c18, k18⟩ := says_lk c 18 rfl
  have F18 := fun_mk (st := sWay) l18 c18 k18
  have b18 := F18.binds (ps := ["_law_m", "_law_row"]) fun _ _ _ _ _ _ us hl => match us, hl with | [_, _], _ => rfl
  have g18 := PySem.W.mg_of X G (show PySem.W.nsIn K mainGlobals "_law_way" = some (some (.ref (He.ga K "_law_way"))) from of_decide_eq_true (says_ex c 18 rfl))
  obtain ⟨oc19, od19, sl19, kV19, dc19, pm19, an19, cd19, ct19, l19, c19, k19⟩ := says_lk c 19 rfl
  have F19 := fun_mk (st := sBeh) l19 c19 k19
  have b19 := F19.binds (ps := ["_law_m", "_law_row"]) fun _ _ _ _ _ _ us hl => match us, hl with | [_, _], _ => rfl
  have g19 := PySem.W.mg_of X G (show PySem.W.nsIn K mainGlobals "_law_behind" = some (some (.ref (He.ga K "_law_behind"))) from of_decide_eq_true (says_ex c 19 rfl))
  obtain ⟨oc20, od20, sl20, kV20, dc20, pm20, an20, cd20, ct20, l20, c20, k20⟩ := says_lk c 20 rfl
  have F20 := fun_mk (st := sFew) l20 c20 k20
  have b20 := F20.binds (ps := ["_law_p"]) fun _ _ _ _ _ _ us hl => match us, hl with | [_], _ => rfl
  have g20 := PySem.W.mg_of X G (show PySem.W.nsIn K mainGlobals "_law_few" = some (some (.ref (He.ga K "_law_few"))) from of_decide_eq_true (says_ex c 20 rfl))
  obtain ⟨oc21, od21, sl21, kV21, dc21, pm21, an21, cd21, ct21, l21, c21, k21⟩ := says_lk c 21 rfl
  have F21 := fun_mk (st := sAll) l21 c21 k21
  have b21 := F21.binds (ps := ["_law_p", "_law_many"]) fun _ _ _ _ _ _ us hl => match us, hl with | [_, _], _ => rfl
  have g21 := PySem.W.mg_of X G (show PySem.W.nsIn K mainGlobals "_law_all_rows" = some (some (.ref (He.ga K "_law_all_rows"))) from of_decide_eq_true (says_ex c 21 rfl))
  obtain ⟨oc22, od22, sl22, kV22, dc22, pm22, an22, cd22, ct22, l22, c22, k22⟩ := says_lk c 22 rfl
  have F22 := fun_mk (st := sBt) l22 c22 k22
  have b22 := F22.binds (ps := ["_law_bag_here", "_law_m"]) fun _ _ _ _ _ _ us hl => match us, hl with | [_, _], _ => rfl
  have g22 := PySem.W.mg_of X G (show PySem.W.nsIn K mainGlobals "_law_bent" = some (some (.ref (He.ga K "_law_bent"))) from of_decide_eq_true (says_ex c 22 rfl))
  obtain ⟨oc23, od23, sl23, kV23, dc23, pm23, an23, cd23, ct23, l23, c23, k23⟩ := says_lk c 23 rfl
  have F23 := fun_mk (st := sDb) l23 c23 k23
  have b23 := F23.binds (ps := ["_law_bag_here", "_law_m"]) fun _ _ _ _ _ _ us hl => match us, hl with | [_, _], _ => rfl
  have g23 := PySem.W.mg_of X G (show PySem.W.nsIn K mainGlobals "_law_doubled" = some (some (.ref (He.ga K "_law_doubled"))) from of_decide_eq_true (says_ex c 23 rfl))
  obtain ⟨oc24, od24, sl24, kV24, dc24, pm24, an24, cd24, ct24, l24, c24, k24⟩ := says_lk c 24 rfl
  have F24 := fun_mk (st := sLaw) l24 c24 k24
  have b24 := F24.binds (ps := ["_law_script"]) fun _ _ _ _ _ _ us hl => match us, hl with | [_], _ => rfl
  have g24 := PySem.W.mg_of X G (show PySem.W.nsIn K mainGlobals "law" = some (some (.ref (He.ga K "law"))) from of_decide_eq_true (says_ex c 24 rfl))
  have B : Bn mg := ⟨PySem.W.mg_none_of X G (show PySem.W.nsIn K mainGlobals "len" = some none from of_decide_eq_true (says_ex c 25 rfl)), PySem.W.mg_none_of X G (show PySem.W.nsIn K mainGlobals "int" = some none from of_decide_eq_true (says_ex c 26 rfl)), PySem.W.mg_none_of X G (show PySem.W.nsIn K mainGlobals "abs" = some none from of_decide_eq_true (says_ex c 27 rfl)), PySem.W.mg_none_of X G (show PySem.W.nsIn K mainGlobals "list" = some none from of_decide_eq_true (says_ex c 28 rfl)), PySem.W.mg_none_of X G (show PySem.W.nsIn K mainGlobals "tuple" = some none from of_decide_eq_true (says_ex c 29 rfl)), PySem.W.mg_none_of X G (show PySem.W.nsIn K mainGlobals "range" = some none from of_decide_eq_true (says_ex c 30 rfl)), PySem.W.mg_none_of X G (show PySem.W.nsIn K mainGlobals "isinstance" = some none from of_decide_eq_true (says_ex c 31 rfl)), PySem.W.mg_none_of X G (show PySem.W.nsIn K mainGlobals "all" = some none from of_decide_eq_true (says_ex c 32 rfl)), PySem.W.mg_none_of X G (show PySem.W.nsIn K mainGlobals "zip" = some none from of_decide_eq_true (says_ex c 33 rfl)), PySem.W.mg_none_of X G (show PySem.W.nsIn K mainGlobals "enumerate" = some none from of_decide_eq_true (says_ex c 34 rfl)), PySem.W.mg_none_of X G (show PySem.W.nsIn K mainGlobals "bool" = some none from of_decide_eq_true (says_ex c 35 rfl))⟩
  have z_str := PySem.W.mg_none_of X G (show PySem.W.nsIn K mainGlobals "str" = some none from of_decide_eq_true (says_ex c 36 rfl))
  have z_super := PySem.W.mg_none_of X G (show PySem.W.nsIn K mainGlobals "super" = some none from of_decide_eq_true (says_ex c 37 rfl))
  have z_min := PySem.W.mg_none_of X G (show PySem.W.nsIn K mainGlobals "min" = some none from of_decide_eq_true (says_ex c 38 rfl))
  obtain ⟨tDi, zD⟩ := intB_ok (says_ex c 39 rfl)
  obtain ⟨dPx, nPx, sPx, tPa, tPb, tPc, tPd, lP⟩ := tup4_ok (says_ex c 40 rfl)
  have gv : Gv K mg (He.ga K "PRIMES") tDi := ⟨PySem.W.mg_of X G (show PySem.W.nsIn K mainGlobals "PRIMES" = some (some (.ref (He.ga K "PRIMES"))) from of_decide_eq_true (says_ex c 41 rfl)), fun H => .inr ⟨_, _, _, lP, rfl, rfl, by show 4 ≤ sizeLine; decide, .cons ⟨_, rfl⟩ (.cons ⟨_, rfl⟩ (.cons ⟨_, rfl⟩ (.cons ⟨_, rfl⟩ .nil)))⟩, PySem.W.mg_of X G zD⟩
  have aC := PySem.W.mg_of X G (show PySem.W.nsIn K mainGlobals "Turner" = some (some (.ref (He.ga K "Turner"))) from of_decide_eq_true (says_ex c 42 rfl))
  obtain ⟨oc25, od25, sl25, kV25, dc25, pm25, an25, cd25, ct25, l25, c25, k25⟩ := says_lk c 25 rfl
  have Fm_states := fun_mk (st := sStates) l25 c25 k25
  have km_states := k25
  have am_states := (show PySem.W.findIn K (.ref (He.ga K "Turner")) "states" = some (some (.ref (He.ma K (He.ga K "Turner") "states"))) from of_decide_eq_true (says_ex c 43 rfl))
  have im_states := (says_ex c 44 rfl)
  have bm_states := Fm_states.binds (ps := ["self"]) fun _ _ _ _ _ _ us hl => match us, hl with | [_], _ => rfl
  obtain ⟨oc26, od26, sl26, kV26, dc26, pm26, an26, cd26, ct26, lp_prime, cp_prime, kp_prime⟩ := says_lk c 26 rfl
  have Fp_prime := fun_mk (st := sPrm) lp_prime cp_prime kp_prime
  have bp_prime := Fp_prime.binds (ps := ["self"]) fun _ _ _ _ _ _ us hl => match us, hl with | [_], _ => rfl
  have ap_prime := (show PySem.W.findIn K (.ref (He.ga K "Turner")) "prime" = some (some (.ref (He.ma K (He.ga K "Turner") "prime"))) from of_decide_eq_true (says_ex c 45 rfl))
  have gp_prime := (show PySem.W.specialIn K (.ref (He.ma K (He.ga K "Turner") "prime")) "__get__" = some (some (.builtin "property.__get__")) from of_decide_eq_true (says_ex c 46 rfl))
  have tp_prime := (show PySem.W.takesIn K (.ref (He.ma K (He.ga K "Turner") "prime")) = some true from of_decide_eq_true (says_ex c 47 rfl))
  obtain ⟨rr_prime, rp_prime⟩ := recB_ok (says_ex c 48 rfl)
  obtain ⟨oc27, od27, sl27, kV27, dc27, pm27, an27, cd27, ct27, lp_start, cp_start, kp_start⟩ := says_lk c 27 rfl
  have Fp_start := fun_mk (st := sStt) lp_start cp_start kp_start
  have bp_start := Fp_start.binds (ps := ["self"]) fun _ _ _ _ _ _ us hl => match us, hl with | [_], _ => rfl
  have ap_start := (show PySem.W.findIn K (.ref (He.ga K "Turner")) "start" = some (some (.ref (He.ma K (He.ga K "Turner") "start"))) from of_decide_eq_true (says_ex c 49 rfl))
  have gp_start := (show PySem.W.specialIn K (.ref (He.ma K (He.ga K "Turner") "start")) "__get__" = some (some (.builtin "property.__get__")) from of_decide_eq_true (says_ex c 50 rfl))
  have tp_start := (show PySem.W.takesIn K (.ref (He.ma K (He.ga K "Turner") "start")) = some true from of_decide_eq_true (says_ex c 51 rfl))
  obtain ⟨rr_start, rp_start⟩ := recB_ok (says_ex c 52 rfl)
  obtain ⟨ocI, odI, slI, dI, dcI, pmI, anI, cdI, ctI, tI, lI, cI, kI, zS⟩ := says_lkw c 28 rfl
  have aI := (show PySem.W.findIn K (.ref (He.ga K "Turner")) "__init__" = some (some (.ref (He.ma K (He.ga K "Turner") "__init__"))) from of_decide_eq_true (says_ex c 53 rfl))
  have iI := (says_ex c 54 rfl)
  have FI : FunD K "__init__" "Turner.__init__" (defArgs sInit) (defBody sInit) (defScope sInit) [] [("start", .int 0)] (He.ma K (He.ga K "Turner") "__init__") _ := ⟨⟨ocI, odI, .none, .ref dI, dcI, pmI, anI, cdI, ctI, slI, rfl, lI, cI, .inl ⟨rfl, rfl⟩, .inr ⟨dI, rfl, fun q hq => by rw [List.mem_singleton.mp hq]; exact ⟨_, zS, tI, rfl⟩⟩⟩, kI⟩
  obtain ⟨mv, KB⟩ := FI.kbinds0 (ps := ["self", "prime", "states", "start"]) 3 ["start"] [] (fun us mv ws => us ++ ws) (by simp) (fun q hq => by cases hq) (fun r1 _ r2 => r1.append r2)
    (fun D doc pm an cdv ct us mv ws l1 l2 l3 => match us, mv, ws, l1, l2, l3 with | [_, _, _], [], [_], _, _, _ => rfl)
  obtain ⟨ds, VD, BD⟩ := FI.binds0 (ps := ["self", "prime", "states", "start"]) 3 (by simp) rfl (fun D doc pm an cdv ct us ks l1 l2 => match us, ks, l1, l2 with | [_, _, _], [_], _, _ => ⟨_, _, _, _, _, _, rfl, rfl, rfl⟩)
  have Tcl : Tc K (He.ga K "Turner") := ⟨⟨(says_ex c 55 rfl), (says_ex c 56 rfl), (says_ex c 57 rfl), (show PySem.W.findIn K (.ref (He.ga K "Turner")) "__setattr__" = some (some (.builtin "object.__setattr__")) from of_decide_eq_true (says_ex c 58 rfl))⟩, (show PySem.W.findIn K (.ref (He.ga K "Turner")) "_prime" = some none from of_decide_eq_true (says_ex c 59 rfl)), (show PySem.W.findIn K (.ref (He.ga K "Turner")) "_states" = some none from of_decide_eq_true (says_ex c 60 rfl)), (show PySem.W.findIn K (.ref (He.ga K "Turner")) "_start" = some none from of_decide_eq_true (says_ex c 61 rfl))⟩
  have rd : ClX.CRead K (He.ga K "Turner") (.type "type") := ⟨(says_ex c 62 rfl), (show PySem.W.specialIn K (.ref (He.ga K "Turner")) "__getattribute__" = some (some (.builtin "type.__getattribute__")) from of_decide_eq_true (says_ex c 63 rfl))⟩
  obtain ⟨tM, mC⟩ := conB_ok (says_ex c 64 rfl)
  have cv : Cv K mg (He.ga K "Turner") (.type "type") (.int 240 tM) := ⟨aC, rd, ⟨mC, tM, rfl⟩⟩
  have Mt : Mk K (He.ga K "Turner") (He.ma K (He.ga K "Turner") "__init__") := ⟨(says_ex c 65 rfl), aI, iI, (says_ex c 66 rfl)⟩
  obtain ⟨kV29, dc29, pm29, an29, ct29, ⟨oc29, od29, sl29, l29⟩, kk29, c29⟩ := says_sup c 29 rfl (says_ex c 67 rfl)
  have h_PrimesDiffer := PySem.W.mg_of X G (show PySem.W.nsIn K mainGlobals "PrimesDiffer" = some (some (.ref (He.ga K "PrimesDiffer"))) from of_decide_eq_true (says_ex c 68 rfl))
  have FC_PrimesDiffer : FunC l.prog K mg "__init__" "PrimesDiffer.__init__" sE_PrimesDiffer (He.ma K (He.ga K "PrimesDiffer") "__init__") (He.ga K "PrimesDiffer") (ccA K (He.ma K (He.ga K "PrimesDiffer") "__init__")) (cdA K (He.ma K (He.ga K "PrimesDiffer") "__init__")) _ "ValueError.__init__" := ⟨⟨_, _, _, _, _, _, _, _, rfl, l29⟩, c29, cellB_ok (says_ex c 69 rfl), (let ⟨_, a1, a2, a3, a4, a5, a6, a7, a8, a9⟩ := cdB_ok (says_ex c 67 rfl); ⟨a1, a2, a3, a4, a5, a6, a7, a8, by rw [hfl]; exact a9⟩), (show PySem.W.ks_superIn K (He.ga K "PrimesDiffer") (He.ga K "PrimesDiffer") "__init__" = some (some (.builtin "ValueError.__init__")) from of_decide_eq_true (says_ex c 70 rfl)), (show PySem.W.nsIn K cStatics "thirdparty.any" = some none from of_decide_eq_true (says_ex c 71 rfl)), z_super, hsu, ⟨_, rfl, rfl⟩, by decide +kernel, by decide +kernel, by decide +kernel⟩
  have OX_PrimesDiffer : OexC K (He.ga K "PrimesDiffer") := oexB_ok (says_ex c 72 rfl)
  have EN_PrimesDiffer : ErrN K (He.ga K "PrimesDiffer") "PrimesDiffer" := errB_ok (says_ex c 73 rfl)
  have na_PrimesDiffer_code : NoAttr K (He.ga K "PrimesDiffer") "code" := (show PySem.W.findIn K (.ref (He.ga K "PrimesDiffer")) "code" = some none from of_decide_eq_true (says_ex c 74 rfl))
  have na_PrimesDiffer_details : NoAttr K (He.ga K "PrimesDiffer") "details" := (show PySem.W.findIn K (.ref (He.ga K "PrimesDiffer")) "details" = some none from of_decide_eq_true (says_ex c 75 rfl))
  have bE_PrimesDiffer : Binds K (PySem.W.fnX "__init__" "PrimesDiffer.__init__" (defArgs sE_PrimesDiffer) (defBody sE_PrimesDiffer) (defScope sE_PrimesDiffer) [("__class__", ccA K (He.ma K (He.ga K "PrimesDiffer") "__init__"))] .none kV29 dc29 pm29 an29 (.ref (cdA K (He.ma K (He.ga K "PrimesDiffer") "__init__"))) ct29) ["self"] [] := .all fun us hl => match us, hl with | [_], _ => rfl
  have hfa2 := hfa.symm.trans g24
  cases hfa2
  refine ⟨PySem.W.fnOf "law" "law" (defArgs sLaw) (defBody sLaw) (defScope sLaw) .none kV24 dc24 pm24 an24 cd24 ct24, fun s v => .of_eq rfl, fun base _ _ => ?_⟩
  have KE_PrimesDiffer : ∀ {vsOk : List V → Hp → List PyData → Prop} {k : Nat}, FnOk l.prog w K mg base CX0 k (He.ma K (He.ga K "PrimesDiffer") "__init__") _ ["self"] (spErr K (He.ga K "PrimesDiffer") "PrimesDiffer" vsOk) → Ke l.prog w K mg base k "PrimesDiffer" (He.ga K "PrimesDiffer") "PrimesDiffer" ["self"] vsOk := fun z => ⟨h_PrimesDiffer, OX_PrimesDiffer, ⟨_, _, (show PySem.W.findIn K (.ref (He.ga K "PrimesDiffer")) "__init__" = some (some (.ref (He.ma K (He.ga K "PrimesDiffer") "__init__"))) from of_decide_eq_true (says_ex c 76 rfl)), (show PySem.W.typeIn K (.ref (He.ma K (He.ga K "PrimesDiffer") "__init__")) = some (.type "function") from of_decide_eq_true (says_ex c 77 rfl)), bE_PrimesDiffer, z⟩⟩
  have D_num := df_mk g0 k0 b0 (ok_num (P := l.prog) (w := w) (base := base) F0 B)
  have D_bel := df_mk g1 k1 b1 (ok_bel F1 D_num)
  have D_chp := df_mk g2 k2 b2 (ok_chp F2 gv D_num)
  have D_isst := df_mk g4 k4 b4 (ok_isst F4 B D_bel)
  have D_first := df_mk g5 k5 b5 (ok_first F5 B cv D_isst)
  have OI := ok_init FI B Tcl D_chp D_bel D_first
  have KF : Kf l.prog w K mg base 5 (He.ga K "Turner") 2 ["self", "prime", "states", "start"] ["start"] gMk (spInit (He.ga K "Turner")) := ⟨⟨_, _, _, Mt, KB, OI⟩⟩
  have K0 : Kd0 l.prog w K mg base 5 (He.ga K "Turner") ["self", "prime", "states", "start"] (spInit (He.ga K "Turner")) := ⟨⟨_, _, _, Mt, VD, BD, OI⟩⟩
  have Ests : Mf l.prog w K mg base 1 (He.ga K "Turner") "states" ["self"] (spSts (He.ga K "Turner")) := ⟨⟨_, _, ⟨am_states, im_states, km_states⟩, bm_states, ok_sts (P := l.prog) (w := w) (base := base) Fm_states B Tcl⟩⟩
  have E_prime : Pf l.prog w K mg base 1 (He.ga K "Turner") "prime" ["self"] (getSp (He.ga K "Turner") "_prime") := ⟨⟨_, _, _, ⟨ap_prime, gp_prime, tp_prime, _, rp_prime⟩, bp_prime, fn_getter (k := 0) lp_prime cp_prime sc_sPrm rfl rfl Tcl.cl Tcl.nP⟩⟩
  have E_start : Pf l.prog w K mg base 1 (He.ga K "Turner") "start" ["self"] (getSp (He.ga K "Turner") "_start") := ⟨⟨_, _, _, ⟨ap_start, gp_start, tp_start, _, rp_start⟩, bp_start, fn_getter (k := 0) lp_start cp_start sc_sStt rfl rfl Tcl.cl Tcl.nT⟩⟩
  have D_cp := df_mk g3 k3 b3 (copied_all (P := l.prog) (w := w) (base := base) F3 B g3 k3 b3 8)
  have KPrimesDiffer := KE_PrimesDiffer (okE_PrimesDiffer FC_PrimesDiffer OX_PrimesDiffer EN_PrimesDiffer na_PrimesDiffer_code na_PrimesDiffer_details)
  have D_way := df_mk g6 k6 b6 (ok_wy (P := l.prog) (w := w) (base := base) F6 B)
  have O_fd := ok_fd F7 B Tcl Ests E_prime E_start D_way KPrimesDiffer
  have X_fd := dx_mk g7 k7 b7 (O_fd)
  have G_fd := df_mk g7 k7 b7 (fd_good O_fd)
  have K_fd : DfK l.prog w K mg base 12 "first_difference" ["one", "other"] ["other", "one"] gSwR (spFDu (He.ga K "Turner")) := ⟨⟨_, _, _, g7, k7, kb_swR F7 (fun _ _ _ _ _ _ _ _ => rfl), fd_good O_fd⟩⟩
  have O_is := ok_ism F8 X_fd
  have G_is := df_mk g8 k8 b8 (is_good O_is)
  have L_bag := df_mk g9 k9 b9 (ok_bag (P := l.prog) (w := w) (base := base) F9 B)
  have L_pull := df_mk g10 k10 b10 (ok_pull (P := l.prog) (w := w) (base := base) F10 B)
  have L_of := df_mk g11 k11 b11 (ok_of F11 B L_pull)
  have L_mixed := df_mk g12 k12 b12 (ok_mxd F12 B L_pull)
  have L_prime := df_mk g14 k14 b14 (ok_prime F14 L_of)
  have L_figures := df_mk g15 k15 b15 (ok_figs F15 B L_pull)
  have L_same := df_mk g13 k13 b13 (same_all (P := l.prog) (w := w) (base := base) F13 B z_str g13 k13 b13 12)
  have L_plain := df_mk g16 k16 b16 (ok_plain F16 B L_pull L_of L_figures)
  have L_made := df_mk g17 k17 b17 (ok_made F17 B cv KF)
  have L_way := df_mk g18 k18 b18 (ok_way (P := l.prog) (w := w) (mg := mg) (base := base) F18)
  have L_beh := df_mk g19 k19 b19 (ok_beh F19 B L_way)
  have L_few := df_mk g20 k20 b20 (ok_few (P := l.prog) (w := w) (mg := mg) (base := base) F20)
  have L_all := df_mk g21 k21 b21 (ok_alln (P := l.prog) (w := w) (base := base) F21 B)
  have L_bent := df_mk g22 k22 b22 (ok_bt F22 B L_pull L_of)
  have L_db := df_mk g23 k23 b23 (ok_db F23 B L_pull L_of L_mixed)
  exact ok_law F24 B z_min cv L_bag L_prime L_few L_plain L_of L_bent L_db L_made L_all L_beh L_same G_fd K_fd G_is

def looseL0 : List PySem.Str := ["_wall", "copied", "TurnError", "Missing", "InvalidPrime", "InvalidFigure", "InvalidSetting", "InvalidState", "InvalidStart", "InvalidText", "PrimesDiffer", "TooMany", "UnknownState", "PRIMES", "MOST_DIALS", "is_number", "is_below", "check_prime", "is_setting", "check_setting", "DIGITS", "is_numeral", "MOST_DIGITS", "_is_state", "_first_wrong", "_pairs_behind", "_product_states", "_state_text", "_read_number", "_halves"]
def looseL1 : List PySem.Str := ["_read_state", "Turner", "_way", "first_difference", "is_same", "_law_bag", "_law_pull", "_law_of", "_law_mixed", "_law_same", "_law_prime", "_law_figures", "_law_plain", "_law_made", "_law_way", "_law_behind", "_law_all_rows", "_law_few", "_law_doubled", "_law_bent"]
def looseL : List PySem.Str := looseL0 ++ looseL1
abbrev RL : PySem.W.OpenRow := PySem.W.OpenLaw.row PySem.Challenge.rw_lowturns_k18_whole_first_differences
abbrev hkL : PySem.W.Hook := hookO nsL fsL exL
def obL (s : PySem.W.SharedT) : AlO := obG nsL fsL exL (HandSHeadRun.getT s)
theorem obL_eq (s : PySem.W.SharedT) : obL s = hkL.obs s.abs := obG_eq nsL fsL exL s
theorem runL (w : World) : HandSHeadRun.RunEq RL (PySem.W.view RL.prog [57]) hkL obL 20000 looseL w := by
  intro os
  kernel_rfl
end Tw
open PySem PySem.W PySem.Calls PyProof.Rows in
set_option maxRecDepth 100000 in
set_option maxHeartbeats 0 in
theorem PySem.Challenge.cw_lowturns_k18_whole_first_differences_holds : PySem.Challenge.rw_lowturns_k18_whole_first_differences.Holds := by
  w_on; o_law
  refine HandSHeadRun.head_any (r := OpenLaw.row PySem.Challenge.rw_lowturns_k18_whole_first_differences) (q := view (OpenLaw.row PySem.Challenge.rw_lowturns_k18_whole_first_differences).prog [57]) (H := Tw.hkL) (ob := Tw.obL) (M := 20000) (loose := Tw.looseL) (d := HandSHeadRun.topDef (OpenLaw.row PySem.Challenge.rw_lowturns_k18_whole_first_differences).prog 57) (kwd := []) Tw.obL_eq
    (by kernel_rfl) (fun s => by kernel_rfl) Tw.runL (by kernel_rfl) (by kernel_rfl) (by kernel_rfl) (by rfl) (by first | assumption | decide +kernel) (by decide +kernel) ⟨rfl, rfl, rfl, rfl, rfl, by decide +kernel⟩ ?hw ?hc
  case hw => w_witness2
  case hc =>
    refine L2.walk_ofE (l := PySem.Challenge.rw_lowturns_k18_whole_first_differences) (n := 63) (k := 16) (x := "_law_script") (CX := L2.CX0) rfl (by decide) (by kernel_rfl) ⟨rfl, by decide, by decide⟩ ?F (fun _ _ _ _ z => z)
    intro w mg fa h Y G hmg0
    obtain ⟨K, KX, c⟩ := Y
    have hmg : mg ("law" : PySem.Str) = some (.ref fa) := by
      have e : (HandSHeadRun.topDef (OpenLaw.row PySem.Challenge.rw_lowturns_k18_whole_first_differences).prog 57).name = ("law" : PySem.Str) := by kernel_rfl
      rw [← e]
      exact hmg0
    obtain ⟨fd, hb, hF⟩ := Tw.all_t (l := PySem.Challenge.rw_lowturns_k18_whole_first_differences) (w := w) (by decide +kernel) (by decide +kernel) KX G hmg c
    exact ⟨K, fd, Tw.spLaw K, KX, hb, fun H a ns hl _ hS => ⟨a, ns, rfl, hS, hl, fun _ => rfl⟩, hF⟩
namespace Tw


end Tw
