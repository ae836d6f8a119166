import PyProof.Rows.All
import Wide.All
import OpenK.AllK
import Wide.FinOn
import HandS.ForMost
import KE.KExcInit
import KE.KExcIs
import HandS.ExcInit
import HandS.ExcOwn
import HandS.ExcValue
import HandS.IsInst
import HandS.ForExc
import HandS.Star
import HandS.ClsMeth
import HandS.More
import HandS.Head0
import HandS.Head1
import HandS.Head2
import HandS.HeadEnd
import HandS.HeadHook4
import HandS.Text
import HandS.TupAny
import HandS.MapJoin
import HandS.SetKeys
import HandS.Style
import HandS.FStr
import PyProof.StrOps2
import HandS.Flow
import HandS.TupSets
import HandS.RaiseMore
import PySem.Challenge.RW_maybegone_k06_texts_of_programs
set_option Elab.async false
set_option linter.all false
set_option maxRecDepth 100000
set_option maxHeartbeats 4000000
namespace G
open PySem PySem.Spec PyProof.Rows L2

/-! ### heaps -/
/-- all that was tracked stands as it was, but for what stands at one of S -/
def Kp (S : List Addr) (H H' : Hp) : Prop := ∀ b o, b ∉ S → H b = some o → H' b = some o
theorem Kp.refl (S : List Addr) (H : Hp) : Kp S H H := fun _ _ _ h => h
theorem Kp.trans {S : List Addr} {H H1 H2 : Hp} (a : Kp S H H1) (b : Kp S H1 H2) : Kp S H H2 := fun c o d h => b c o d (a c o d h)
theorem Kp.mono {S T : List Addr} {H H' : Hp} (a : Kp S H H') (h : ∀ b, b ∈ S → b ∈ T) : Kp T H H' := fun c o d e => a c o (fun z => d (h c z)) e
/-- a new object -/
theorem Kp.new {S : List Addr} {p : Addr} {H H' : Hp} {o : HO} (a : Kp S H H') (h : H' p = none) : Kp S H (upd H' p o) := fun c u d e => by
  have q := a c u d e
  rw [upd_ne (ne_of_none q h)]
  exact q
/-- one of S is changed -/
theorem Kp.put {S : List Addr} {p : Addr} {H H' : Hp} {o : HO} (a : Kp S H H') (h : p ∈ S) : Kp S H (upd H' p o) := fun c u d e => by
  have hc : c ≠ p := fun z => d (by rw [z]; exact h)
  rw [upd_ne hc]
  exact a c u d e
/-- what was not there yet need not be kept -/
theorem Kp.fresh {S : List Addr} {p : Addr} {H H' : Hp} (a : Kp (p :: S) H H') (h : H p = none) : Kp S H H' := fun c u d e => a c u (fun z => by
  rcases List.mem_cons.mp z with z | z
  · rw [z, h] at e
    cases e
  · exact d z) e
theorem Kp.same {S : List Addr} {H H' : Hp} (s : Same H H') : Kp S H H' := fun c u _ e => s c u e
theorem Kp.toSame {H H' : Hp} (s : Kp [] H H') : Same H H' := fun c u e => s c u (fun z => by cases z) e
theorem Kp.seq {K : PySem.W.Frag} {S : List Addr} {a : Addr} {H H' : Hp} {xs : List V} (k : Kp S H H') (d : a ∉ S) (h : SqL K H a xs) : SqL K H' a xs := by
  rcases h with (h | ⟨o, h⟩) | h
  · exact .inl (.inl (k _ _ d h))
  · exact .inl (.inr ⟨o, k _ _ d h⟩)
  · exact .inr h

theorem Kp.none_of {S : List Addr} {a : Addr} {H H' : Hp} (k : Kp S H H') (h : H' a = none) (d : a ∉ S) : H a = none := by
  cases e : H a with
  | none => rfl
  | some o =>
    rw [k a o d e] at h
    cases h

/-! ### the deck -/
/-- a list of a list of numbers, and of a count of at most n -/
structure Deck (H : Hp) (D L : Addr) (n : Nat) : Prop where
  ne : D ≠ L
  ex : ∃ (m : Int) (ns : List Int), H D = some (.lst [.ref L, .int m]) ∧ H L = some (.lst (ns.map V.int)) ∧ 0 ≤ m ∧ m ≤ (n : Int) ∧ ns.length ≤ 63 ∧ ∀ x ∈ ns, 0 ≤ x
theorem Deck.mono {H : Hp} {D L : Addr} {n n' : Nat} (d : Deck H D L n) (h : n ≤ n') : Deck H D L n' := by
  obtain ⟨ne, m, ns, h1, h2, h3, h4, h5, h6⟩ := d
  exact ⟨ne, m, ns, h1, h2, h3, by omega, h5, h6⟩
theorem Deck.kp {S : List Addr} {H H' : Hp} {D L : Addr} {n : Nat} (d : Deck H D L n) (k : Kp S H H') (hD : D ∉ S) (hL : L ∉ S) : Deck H' D L n := by
  obtain ⟨ne, m, ns, h1, h2, h3⟩ := d
  exact ⟨ne, m, ns, k _ _ hD h1, k _ _ hL h2, h3⟩
theorem Deck.new {H : Hp} {D L p : Addr} {n : Nat} {o : HO} (d : Deck H D L n) (h : H p = none) : Deck (upd H p o) D L n :=
  d.kp (Kp.new (Kp.refl [] H) h) (fun z => by cases z) (fun z => by cases z)
theorem Deck.neD {H : Hp} {D L p : Addr} {n : Nat} (d : Deck H D L n) (h : H p = none) : p ≠ D ∧ p ≠ L := by
  obtain ⟨ne, m, ns, h1, h2, h3⟩ := d
  exact ⟨(ne_of_none h1 h).symm, (ne_of_none h2 h).symm⟩

/-- the built-in names that are used -/
structure Bi (mg : Str → Option Value) : Prop where
  z_len : mg "len" = none
  z_abs : mg "abs" = none
  z_int : mg "int" = none
  z_range : mg "range" = none

theorem cut_all {xs : List V} (h : xs.length ≤ 63) : cutV xs none (some 63) = xs := by
  unfold cutV
  rw [HT.sIx_none, show HT.sIx xs.length xs.length (some 63) = min 63 xs.length from HT.sIx_nat xs.length xs.length 63]
  show List.take (min 63 xs.length - 0) (List.drop 0 xs) = xs
  rw [List.drop_zero, Nat.min_eq_right h, Nat.sub_zero, List.take_length]
def iabs (i : Int) : Int := if i < 0 then -i else i
theorem iabs_nonneg (i : Int) : 0 ≤ iabs i := by
  unfold iabs
  split <;> omega
theorem take_step {α : Type} {l : List α} {i : Nat} {x : α} (h : l[i]? = some x) : l.take (i + 1) = l.take i ++ [x] := by
  rw [List.take_add_one, h]
  all_goals rfl
theorem line1000 {n : Nat} (h : n ≤ 1000) : n ≤ sizeLine := Nat.le_of_lt (small1000 h)
end G

set_option Elab.async false
set_option linter.all false
set_option maxRecDepth 100000
set_option maxHeartbeats 4000000
/-! A def that is called where nothing guards against itself (the law at the very top): there repr of nested data may be used. -/
namespace G
open PySem PySem.Spec PyProof.Rows L2
/-- repr of data without dicts -/
def rRepr (K : PySem.W.Frag) : List V → Hp → VK → Prop := fun vs H Q => ∃ (v : V) (d : PyData), vs = [v] ∧ Dp K H v d ∧ d.showable = true ∧
  d.hasDict = false ∧ d.depth ≤ 100 ∧ d.shown.length ≤ sizeLine ∧ Q (.str d.shown) H
theorem call_reprD {X : Cx} (hg : X.A.guards = some []) (hu : X.A.units + 101 < cLine) : CallR X (.builtin "repr") (rRepr X.K) := by
  intro pins s σ H vs us Q I r h
  obtain ⟨v, d, rfl, hd, hs, hn, hdep, hz, q⟩ := h
  obtain ⟨u, rfl, rv⟩ := vals1 r
  obtain ⟨as, rd⟩ := Dp.reads I d v u hd rv
  cases hd with
  | non =>
    cases rv
    exact PySem.P.repr_of_none ⟨.str _, H, I.tok _, ⟨_, rfl⟩, by simpa only [PyData.shown] using q⟩
  | bl b =>
    cases rv
    exact PySem.P.repr_of_bool ⟨.str _, H, I.tok _, ⟨_, rfl⟩, by simpa only [PyData.shown] using q⟩
  | int i =>
    obtain ⟨t, rfl⟩ := rv
    exact PySem.P.repr_of_int (by simpa [PyData.showable] using hs) ⟨.str _, H, I.tok _, ⟨_, rfl⟩, by simpa only [PyData.shown] using q⟩
  | str x =>
    obtain ⟨t, rfl⟩ := rv
    exact PySem.P.repr_of_str ⟨.str _, H, I.tok _, ⟨_, rfl⟩, by simpa only [PyData.shown] using q⟩ (by simpa only [PyData.shown] using hz)
  | lst h1 h2 =>
    cases rv
    exact repr_of_reads' rd hs (PyData.noDict_hsm hn) hg (by omega) (fun _ _ e => e) (fun h' t tk hk => ⟨.str _, H, I.kept hk, ⟨_, rfl⟩, q⟩) hz
  | tup h1 h2 =>
    cases rv
    exact repr_of_reads' rd hs (PyData.noDict_hsm hn) hg (by omega) (fun _ _ e => e) (fun h' t tk hk => ⟨.str _, H, I.kept hk, ⟨_, rfl⟩, q⟩) hz
/-- a def's promise where no guard stands around the call -/
structure FnOkG (P : Program) (w : World) (K : PySem.W.Frag) (mg : Str → Option Value) (base : Heap) (k : Nat) (f : Addr) (fd : FuncData) (ps : List Str) (sp : Sp) : Prop where
  len : ∀ vs H Q E, sp vs H Q E → vs.length = ps.length
  run : ∀ (A : Around) (outer : List Env) (s : Shared) (H : Hp) (args : Args) (us : List Value) (vs : List V) (Q : VK) (E : XK),
    A.guards = some [] → Room k A → Env0 P w K mg base A outer s H → BindsTo s fd args (ps.zip us) →
    Vals vs us → sp vs H Q E →
    codeAny (model P w) A (.call (.ref f) args) (CR CX0 outer P w H s Q E) s
/-- the rule for such a def: its body as a term of rules, and the reading of that term -/
theorem Fun.okG {P : Program} {w : World} {K : PySem.W.Frag} {mg : Str → Option Value} {base : Heap} {x qual : Str} {st : Stmt} {f : Addr} {fd : FuncData}
    {N ps : List Str} {k : Nat} {sp : Sp} (F : Fun K x qual st f fd) (S : FnScope N ps (defScope st)) (len : ∀ vs H Q E, sp vs H Q E → vs.length = ps.length)
    (body : ∀ (cdv : Value) (A : Around) (outer : List Env) (s : Shared) (H : Hp) (vs : List V) (Q : VK) (E : XK), A.guards = some [] →
      Room k (A.deeper (envOfC qual (defScope st) s.heap.objs.size f cdv)) → sp vs H Q E →
      ∃ t, PSs (cxOf CX0 P w K mg base N qual (defScope st) f cdv A outer s H E).nox (defBody st) t ∧
        t { nx := fun _ H' => Q .non H', rt := Q } (start N vs) H) : FnOkG P w K mg base (k + 1) f fd ps sp := by
  obtain ⟨oc, od, kV, doc, pm, an, cdv, ct, osl, rfl, lk, hcd⟩ := F.ex
  refine ⟨len, fun A outer s H args us vs Q E hg hr e0 hb r hsp => ?_⟩
  have nvs := len _ _ _ _ hsp
  have kept0 : ∀ b o, base.get? b = some o → s.heap.get? b = some o := fun b o e => (e0.bs b o e).1
  have KS : K.In s.heap := e0.mod.kin.keeps kept0
  have NL : s.heap.NoLimit := e0.mod.nolimit.keeps kept0
  have kinds : ∀ y ∈ ps.zip us, (defScope st).names.lookup y.1 = some .local ∨ ((defScope st).names.lookup y.1 = some .cell ∧
      ((cellsFrom (s.heap.objs.size + 1) (defScope st).names []).lookup y.1).isSome = true) := by
    rintro ⟨n, v⟩ hy
    have hm := (List.of_mem_zip hy).1
    cases S.par n hm with
    | inl z => exact Or.inl z
    | inr z => exact Or.inr ⟨z, PySem.W.cellsFrom_some _ _ _ (Or.inl z)⟩
  refine codeAny_call_function hr.depth (KS _ _ lk) rfl S.co S.gen rfl (PySem.W.codeRec_of KS hcd) (hb _ _ _ _ ?_)
  refine wpAny_newFunctionEnv_cells S.kind kinds fun env he s1 x1 => ?_
  subst he
  refine ⟨NL.keeps x1.toInCall.keep, codeAny_func ?_⟩
  obtain ⟨t, ht0, hq⟩ := body cdv A outer s H vs Q E hg (hr.deeper _) hsp
  have ht := ht0.nox
  have J0 : Inv (cxOf CX0 P w K mg base N qual (defScope st) f cdv A outer s H E) [] (start N vs) H s1 :=
    inv_start S hr.hd e0 nvs r x1
  refine wpAny_mono (ht.run [] s1 (start N vs) H _ J0 hq) (fun fl s2 hs => ?_) fun e s2 hs => hs
  cases fl with
  | next =>
    obtain ⟨σ2, H2, J, q⟩ := hs
    exact ⟨V.non, H2, J.os, J.bare, J.base, J.hok, rfl, q⟩
  | ret u =>
    obtain ⟨v, σ2, H2, J, rv, q⟩ := hs
    exact ⟨v, H2, J.os, J.bare, J.base, J.hok, rv, q⟩
  | brk =>
    obtain ⟨_, _, _, q⟩ := hs
    exact False.elim q
  | cont =>
    obtain ⟨_, _, _, q⟩ := hs
    exact False.elim q
/-! ### the end: the law's own def by such a promise -/
/-- what the law promises: at a list of at most n ints it gives True -/
def spLawN (K : PySem.W.Frag) (n : Nat) : Sp := fun vs H Q _ => ∃ (a : Addr) (ns : List Int), vs = [.ref a] ∧ SqL K H a (ns.map V.int) ∧ ns.length ≤ n ∧ ∀ H', Q (.bl true) H'
/-- one abstract heap, in which nothing but the script may be tracked, is enough -/
theorem call_at {P : Program} {w : World} {K : PySem.W.Frag} {mg mb : Str → Option Value} {k n : Nat} {fa a : Addr} {fd : FuncData} {x : Str}
    {s₁ : Shared} {vs : List Value} {ns : List Int} (KX : K.In s₁.heap) (hns : s₁.heap.Ns mainGlobals mg) (hb : s₁.heap.Ns builtinsNs mb)
    (hbb : ∀ x : Str, x ≠ "__name__" → mb x = bootBuiltins x) (hlim : s₁.heap.NoLimit) (hg : s₁.gens = #[])
    (ha : s₁.heap.get? a = some { cls := .type "list", data := .seq vs.toArray }) (hln : ns.length ≤ n) (hr : Room k callerA)
    (F : ∀ base : Heap, K.In base → base.Ns mainGlobals mg → FnOkG P w K mg base k fa fd [x] (spLawN K n))
    (hbind : ∀ (s : Shared) (u : Value), BindsTo s fd ⟨[u], []⟩ [(x, u)])
    (H : Hp) (hO : ∀ b, H b = none ∨ ∃ o xs, H b = some (.frz o (.lst xs))) (hS : SqL K H a (ns.map V.int)) (hok : HOk P w H s₁.heap)
    (hA : ∀ b, H b ≠ none → b = a) (hK : H a ≠ none → K.lookup a = none) :
    codeAny (model P w) callerA (.call (.ref fa) ⟨[.ref a], []⟩)
      (fun r s' => r = .ok (.ret (.bool true)) ∧ OldK s₁.heap s'.heap ∧ s'.os = s₁.os ∧ AllBare s'.gens) s₁ := by
  have seen : ∀ {b : Addr} {o : Obj}, s₁.heap.get? b = some o → H b = none → (hidT s₁.heap H).get? b = some o := fun e z => hidT_get e z
  have dictFree : ∀ {b : Addr} {o : Obj} {es : Array DictEntry} {ep : Nat}, s₁.heap.get? b = some o → o.data = .dict es ep → H b = none := by
    intro b o es ep e d
    cases q : H b with
    | none => rfl
    | some u =>
      obtain rfl : b = a := hA b (by simp [q])
      rw [ha] at e
      cases e
      exact nomatch (show Data.seq vs.toArray _ = Data.dict es ep from d)
  have nsOf : ∀ {b : Addr} {m : Str → Option Value}, s₁.heap.Ns b m → (hidT s₁.heap H).Ns b m := by
    rintro b m ⟨o, es, ep, e, d, r⟩
    exact ⟨o, es, ep, seen e (dictFree e d), d, r⟩
  have inB : K.In (hidT s₁.heap H) := by
    intro b o e
    refine seen (KX b o e) ?_
    cases q : H b with
    | none => rfl
    | some u =>
      obtain rfl : b = a := hA b (by simp [q])
      rw [hK (by simp [q])] at e
      cases e
  have md : Mod K mg (hidT s₁.heap H) := by
    obtain ⟨mc, l1, l2⟩ := hlim
    exact ⟨inB, nsOf hns, ⟨mb, nsOf hb, hbb⟩, ⟨mc, nsOf l1, l2⟩⟩
  have en : Env0 P w K mg (hidT s₁.heap H) callerA [] s₁ H :=
    { frames := rfl, mod := md, bs := fun b o e => of_hidT e, bsz := Nat.le_of_eq (hidT_size _ _), funs := trivial
      frf := fun b hb => by cases hb
      hok := hok, bare := .of_eq hg }
  have FB := F _ inB (nsOf hns)
  refine codeAny_mono (FB.run callerA [] s₁ H ⟨[.ref a], []⟩ [.ref a] [.ref a] (fun v _ => v = .bl true) (fun _ _ _ => False) rfl hr en
    (hbind s₁ (.ref a)) (.cons rfl .nil) ⟨a, ns, rfl, hS, hln, fun _ => rfl⟩) fun r s' h => ?_
  match r, h with
  | .ok (.ret u), h =>
    obtain ⟨v, H', os, bare, un, hok', r', q⟩ := h
    have ev : v = .bl true := q
    subst ev
    have eu : u = Value.bool true := r'
    subst eu
    refine ⟨rfl, OldK.of_keep fun b o e => ?_, os, bare⟩
    cases q2 : H b with
    | none => exact un.keep b o e q2 (by simp [frs]) (by simp)
    | some u2 =>
      rcases hO b with z | ⟨ob, xs, z⟩
      · rw [q2] at z
        cases z
      · obtain ⟨w1, _⟩ := hok b _ z
        obtain ⟨w2, _⟩ := hok' b _ (un.frzs b ob _ z)
        rw [e] at w1
        cases w1
        exact w2
  | .ok .next, h => exact False.elim h
  | .ok .brk, h => exact False.elim h
  | .ok .cont, h => exact False.elim h
  | .error e, h => exact False.elim h
theorem walk_ofG {l : PySem.W.OpenLaw} {n k : Nat} {q : Program} {loose : List Str} {XP : (Str → Option Value) → Heap → Prop} {YP : World → Heap → Prop}
    {d : DefRec} {K : Params → PySem.W.Frag} {x : Str} (hn : l.most = some n) (hn2 : n ≤ sizeLine) (hdf : d.params.defaults = []) (hr : Room k callerA)
    (hY : ∀ (w : World) (h : Heap), YP w h → (K w.params).In h)
    (F : ∀ (w : World) (mg : Str → Option Value) (fa : Addr) (h : Heap), (K w.params).In h → h.Ns mainGlobals mg → mg d.name = some (.ref fa) →
      ∃ fd : FuncData, (∀ (s : Shared) (u : Value), BindsTo s fd ⟨[u], []⟩ [(x, u)]) ∧
        ∀ base : Heap, (K w.params).In base → base.Ns mainGlobals mg → FnOkG l.prog w (K w.params) mg base k fa fd [x] (spLawN (K w.params) n)) :
    PySem.W.WalkO q loose XP YP l.row.toRowW d [] (fun f vs => PySem.call f vs) := by
  refine Att.attach_call hn hdf fun w s₀ s₁ mg mb fa o pm cd doc a vs ns Gr Y ho hd hcd hmg hobj hints hlen hgens => ?_
  have KX := hY w _ Y
  obtain ⟨fd, hb, hF⟩ := F w mg fa _ KX Gr.T.g hmg
  have rv := vals_ints hints
  have hl : ns.length ≤ sizeLine := Nat.le_trans hlen hn2
  have goal := @call_at l.prog w (K w.params) mg mb k n fa a fd x s₁ vs ns KX Gr.T.g Gr.T.b Gr.T.builtins Gr.T.nolimit hgens hobj hlen hr hF hb
  cases hk : (K w.params).lookup a with
  | some o1 =>
    have e := KX a o1 hk
    rw [hobj] at e
    cases e
    refine goal (fun _ => none) (fun _ => Or.inl rfl) (Or.inr ⟨_, vs.toArray, _, hk, rfl, rfl, rfl, ?_, by simpa using rv⟩) (fun b u z => nomatch z) (fun b z => absurd rfl z) fun z => absurd rfl z
    rw [List.size_toArray, hints.length]
    exact hl
  | none =>
    let frozen : HO := .frz { cls := .type "list", data := .seq vs.toArray } (.lst (ns.map V.int))
    have at_a : ∀ b, b = a → (fun b => if b = a then some frozen else none : Hp) b = some frozen := fun b hb => if_pos hb
    have off_a : ∀ b, b ≠ a → (fun b => if b = a then some frozen else none : Hp) b = none := fun b hb => if_neg hb
    refine goal (fun b => if b = a then some frozen else none) (fun b => ?_) (Or.inl (Or.inr ⟨_, at_a a rfl⟩)) (fun b u z => ?_) (fun b z => ?_) fun _ => hk
    · by_cases hb : b = a
      · exact Or.inr ⟨_, _, at_a b hb⟩
      · exact Or.inl (off_a b hb)
    · by_cases hb : b = a
      · rw [at_a b hb] at z
        cases z
        subst hb
        exact ⟨hobj, by rw [List.length_map]; exact hl, vs, _, rv, hobj⟩
      · rw [off_a b hb] at z
        cases z
    · by_cases hb : b = a
      · exact hb
      · exact absurd (off_a b hb) z
end G

set_option Elab.async false
set_option linter.all false
set_option maxRecDepth 100000
set_option maxHeartbeats 4000000
/-! How long a shown text may be; repr of data and of small dicts. -/
namespace G
open PySem PySem.Spec PyProof.Rows L2
/-- a text of Unicode's signs -/
def OkS (x : Str) : Prop := ∀ c ∈ x.cps.toList, c < 1114112
theorem OkS.of (s : String) : OkS (Str.ofString s) := by
  intro c hc
  rw [PyProof.Rows.signs_ofString] at hc
  obtain ⟨d, _, rfl⟩ := List.mem_map.mp hc
  have h := d.valid
  have z : d.toNat = d.val.toNat := rfl
  rw [z]
  rcases h with h | ⟨_, h⟩
  · exact Nat.lt_trans h (by decide)
  · exact h
theorem OkS.app {x y : Str} (a : OkS x) (b : OkS y) : OkS (x ++ y) := by
  intro c hc
  have e : (x ++ y).cps.toList = x.cps.toList ++ y.cps.toList := by
    show (x.cps ++ y.cps).toList = _
    rw [Array.toList_append]
  rw [e] at hc
  rcases List.mem_append.mp hc with h | h
  · exact a c h
  · exact b c h
theorem reprChar_le {q c : Nat} (hc : c < 1114112) : (PySem.Builtin.Str.reprChar q c).length ≤ 10 := by
  have h6 : (Nat.toDigits 16 c).length ≤ 6 := by
    refine (Nat.length_toDigits_le_iff (by decide) (by decide)).mpr ?_
    omega
  unfold PySem.Builtin.Str.reprChar
  simp only []
  have hl : ∀ w : Nat, w ≤ 8 → (List.replicate (w - ((Nat.toDigits 16 c).map Char.toNat).length) 48 ++ (Nat.toDigits 16 c).map Char.toNat).length ≤ 8 := by
    intro w hw
    rw [List.length_append, List.length_replicate, List.length_map]
    omega
  have h2 := hl 2 (by decide)
  have h4 := hl 4 (by decide)
  have h8 := hl 8 (by decide)
  repeat' split
  all_goals first
    | decide
    | (simp only [List.length_cons, List.length_nil]; omega)
    | (rw [List.length_append]; simp only [List.length_cons, List.length_nil]; omega)
theorem reprText_le {x : Str} (h : OkS x) : (reprText x).length ≤ 10 * x.length + 2 := by
  rw [← reprLen_eq, ← Array.foldl_toList]
  have key : ∀ (l : List Nat) (n : Nat), (∀ c ∈ l, c < 1114112) → l.foldl (fun n c => n + (PySem.Builtin.Str.reprChar (reprQuote x) c).length) n ≤ n + 10 * l.length := by
    intro l
    induction l with
    | nil => intro n _; exact Nat.le_refl _
    | cons c r ih =>
      intro n hb
      have h1 := reprChar_le (q := reprQuote x) (hb c (List.mem_cons_self ..))
      have h2 := ih (n + (PySem.Builtin.Str.reprChar (reprQuote x) c).length) fun d hd => hb d (List.mem_cons_of_mem _ hd)
      rw [List.foldl_cons, List.length_cons]
      omega
  have z := key x.cps.toList 2 h
  rw [Array.length_toList] at z
  have e : x.length = x.cps.size := rfl
  omega
mutual
/-- a bound of the shown text -/
def big : PyData → Nat
  | .none => 4
  | .bool _ => 5
  | .int i => (Str.ofString (toString i)).length
  | .str x => 10 * x.length + 2
  | .list xs => bigs xs + 4
  | .tuple xs => bigs xs + 4
  | .dict kvs => bigKv kvs + 4
def bigs : List PyData → Nat
  | [] => 0
  | x :: xs => big x + 2 + bigs xs
def bigKv : List (PyData × PyData) → Nat
  | [] => 0
  | (k, v) :: r => big k + big v + 4 + bigKv r
end
mutual
/-- its texts are of Unicode's signs -/
def OkD : PyData → Prop
  | .none | .bool _ | .int _ => True
  | .str x => OkS x
  | .list xs | .tuple xs => OkDs xs
  | .dict kvs => OkKv kvs
def OkDs : List PyData → Prop
  | [] => True
  | x :: xs => OkD x ∧ OkDs xs
def OkKv : List (PyData × PyData) → Prop
  | [] => True
  | (k, v) :: r => OkD k ∧ OkD v ∧ OkKv r
end
theorem textFrom_le : ∀ (ts : List Str) (k : Nat) (acc : Str), (textFrom k acc ts).length ≤ acc.length + piled ts
  | [], k, acc => by show acc.length ≤ acc.length + piled []; omega
  | t :: r, k, acc => by
    have ih := textFrom_le r (k + 1) (acc ++ (if k > 0 then ", " else "" : String) ++ t)
    show (textFrom (k + 1) (acc ++ (if k > 0 then ", " else "" : String) ++ t) r).length ≤ _
    rw [piled_cons]
    rw [strLen_append, strLen_append] at ih
    have z : (Str.ofString (if k > 0 then ", " else "" : String)).length ≤ 2 := by
      split <;> decide
    omega
theorem join_le (ts : List Str) : (Str.join ", " ts).length ≤ piled ts := by
  by_cases h : ts = []
  · subst h
    exact Nat.zero_le _
  · have := join_length_add ts h
    omega
mutual
theorem shown_le : ∀ d : PyData, OkD d → d.shown.length ≤ big d
  | .none, _ => by
    simp only [PyData.shown, big]
    decide
  | .bool b, _ => by
    simp only [PyData.shown, big]
    cases b <;> decide
  | .int i, _ => by
    simp only [PyData.shown, big]
    exact Nat.le_refl _
  | .str x, h => by
    simp only [PyData.shown, big]
    exact reprText_le (by simpa only [OkD] using h)
  | .list xs, h => by
    simp only [PyData.shown, big]
    have z := shownAll_le xs (by simpa only [OkD] using h)
    have y := textFrom_le (PyData.shownAll xs) 0 "["
    unfold listText
    rw [strLen_append]
    have e1 : ("[" : Str).length = 1 := rfl
    have e2 : ("]" : Str).length = 1 := rfl
    omega
  | .tuple xs, h => by
    simp only [PyData.shown, big]
    have z := shownAll_le xs (by simpa only [OkD] using h)
    have y := join_le (PyData.shownAll xs)
    unfold tupleText
    rw [strLen_append, strLen_append]
    have e1 : ("(" : Str).length = 1 := rfl
    have e2 : (Str.ofString (if (PyData.shownAll xs).length == 1 then ",)" else ")" : String)).length ≤ 2 := by split <;> decide
    omega
  | .dict kvs, h => by
    simp only [PyData.shown, big]
    have z := shownKv_le kvs (by simpa only [OkD] using h)
    have y := join_le (PyData.shownKv kvs)
    unfold dictText
    rw [strLen_append, strLen_append]
    have e1 : ("{" : Str).length = 1 := rfl
    have e2 : ("}" : Str).length = 1 := rfl
    omega
theorem shownAll_le : ∀ ds : List PyData, OkDs ds → piled (PyData.shownAll ds) ≤ bigs ds
  | [], _ => by
    simp only [PyData.shownAll, bigs]
    exact Nat.le_refl _
  | x :: xs, h => by
    simp only [OkDs] at h
    simp only [PyData.shownAll, bigs]
    rw [piled_cons]
    have a := shown_le x h.1
    have b := shownAll_le xs h.2
    omega
theorem shownKv_le : ∀ ds : List (PyData × PyData), OkKv ds → piled (PyData.shownKv ds) ≤ bigKv ds
  | [], _ => by
    simp only [PyData.shownKv, bigKv]
    exact Nat.le_refl _
  | (k, v) :: r, h => by
    simp only [OkKv] at h
    simp only [PyData.shownKv, bigKv]
    rw [piled_cons, strLen_append, strLen_append]
    have a := shown_le k h.1
    have b := shown_le v h.2.1
    have c := shownKv_le r h.2.2
    have e : (": " : Str).length = 2 := rfl
    omega
end
theorem big_int {i : Int} {k : Nat} (hk : 0 < k) (h : i.natAbs < 10 ^ k) : big (.int i) ≤ k + 1 := by
  show (Str.ofString (toString i)).length ≤ k + 1
  rw [PySem.ofString_length]
  exact int_text_length_le10 hk h
end G

set_option Elab.async false
set_option linter.all false
set_option maxRecDepth 100000
set_option maxHeartbeats 4000000
/-! Data kept; repr of it; calls of defs whose promise asks that no guard stands around. -/
namespace G
open PySem PySem.Spec PyProof.Rows L2
theorem Kp.sqt {K : PySem.W.Frag} {S : List Addr} {a : Addr} {H H' : Hp} {xs : List V} (k : Kp S H H') (d : a ∉ S) (h : SqT K H a xs) : SqT K H' a xs := by
  rcases h with (h | ⟨o, h⟩) | h
  · exact .inl (.inl (k _ _ d h))
  · exact .inl (.inr ⟨o, k _ _ d h⟩)
  · exact .inr h
theorem Same.sqt {K : PySem.W.Frag} {a : Addr} {H H' : Hp} {xs : List V} (k : Same H H') (h : SqT K H a xs) : SqT K H' a xs := (Kp.same (S := []) k).sqt (fun z => nomatch z) h
mutual
theorem Dp.keep {K : PySem.W.Frag} {H H' : Hp} (k : Same H H') : ∀ (d : PyData) (v : V), Dp K H v d → Dp K H' v d
  | .none, _, h => by cases h; exact .non
  | .bool b, _, h => by cases h; exact .bl b
  | .int i, _, h => by cases h; exact .int i
  | .str x, _, h => by cases h; exact .str x
  | .list ds, _, h => by
    cases h with
    | lst h1 h2 => exact .lst (k.seq h1) (Dp.keeps k ds _ h2)
  | .tuple ds, _, h => by
    cases h with
    | tup h1 h2 => exact .tup (Same.sqt k h1) (Dp.keeps k ds _ h2)
  | .dict _, _, h => nomatch h
theorem Dp.keeps {K : PySem.W.Frag} {H H' : Hp} (k : Same H H') : ∀ (ds : List PyData) (vs : List V), DpAll K H vs ds → DpAll K H' vs ds
  | [], _, h => by cases h; exact .nil
  | d :: ds, _, h => by
    cases h with
    | cons h1 h2 => exact .cons (Dp.keep k d _ h1) (Dp.keeps k ds _ h2)
end
/-- what v shows when it is printed: data, or a small dict -/
def Shows (K : PySem.W.Frag) (H : Hp) (v : V) (d : PyData) : Prop := (Dp K H v d ∧ d.hasDict = false) ∨ (∃ a, v = .ref a ∧ H a = some (.dK []) ∧ d = .dict []) ∨
  ∃ (a : Addr) (x : Str) (i : Int), v = .ref a ∧ H a = some (.dK [(.inr x, .int i)]) ∧ d = .dict [(.str x, .int i)]
theorem Shows.keep {K : PySem.W.Frag} {H H' : Hp} {v : V} {d : PyData} (h : Shows K H v d) (k : Same H H') : Shows K H' v d := by
  rcases h with ⟨h, n⟩ | ⟨a, e, h, n⟩ | ⟨a, x, i, e, h, n⟩
  · exact .inl ⟨Dp.keep k d v h, n⟩
  · exact .inr (.inl ⟨a, e, k _ _ h, n⟩)
  · exact .inr (.inr ⟨a, x, i, e, k _ _ h, n⟩)
def rShow (K : PySem.W.Frag) : List V → Hp → VK → Prop := fun vs H Q => ∃ (v : V) (d : PyData), vs = [v] ∧ Shows K H v d ∧ d.showable = true ∧ OkD d ∧ d.depth ≤ 100 ∧ big d ≤ 1000000 ∧ Q (.str d.shown) H
theorem call_show {X : Cx} (hg : X.A.guards = some []) (hu : X.A.units + 101 < cLine) : CallR X (.builtin "repr") (rShow X.K) := by
  intro pins s σ H vs us Q I r h
  obtain ⟨v, d, rfl, hd, hs, ok, hdep, hb, q⟩ := h
  have hz : d.shown.length ≤ sizeLine := Nat.le_trans (shown_le d ok) (by rw [sizeLine_eq]; omega)
  have dict : ∀ (a : Addr) (kvs : List (Key × V)) (ds : List (PyData × PyData)), v = .ref a → H a = some (.dK kvs) → d = .dict ds →
      (∀ vs es, KV kvs vs → Pairs (mixKind X.prog X.w) es vs → ∃ as bs, ReadsAll s.heap (es.map (·.key)) (ds.map (·.1)) as ∧ ReadsAll s.heap (es.map (·.val)) (ds.map (·.2)) bs ∧ as = [] ∧ bs = []) →
      wpAny (model X.prog X.w) X.A (call (.builtin "repr") us) (EP X pins σ Q) X.xe s := by
    rintro a kvs ds rfl ha rfl hall
    obtain ⟨u, rfl, rv⟩ := vals1 r
    obtain rfl : u = Value.ref a := rv
    obtain ⟨_, hsm, ws, hkv, o, es, ep, ho, hex, hdt, _, hp, _⟩ := (show ObjOk X.prog X.w H s.heap a (.dK kvs) from I.hok a _ ha)
    obtain ⟨as, bs, r1, r2, e1, e2⟩ := hall ws es.toList hkv hp
    subst e1 e2
    refine repr_of_reads' (Reads.dict ho hex.1 hdt r1 r2) hs (fun _ hm => ?_) hg (by omega) (fun _ _ e => e) (fun h' t tk hk => ⟨.str _, H, I.kept hk, ⟨_, rfl⟩, q⟩) hz
    rw [List.append_nil, List.mem_singleton] at hm
    rw [hm] at hsm
    simp at hsm
  rcases hd with ⟨hd, hn⟩ | ⟨a, ev, ha, ed⟩ | ⟨a, x, i, ev, ha, ed⟩
  · exact call_reprD hg hu pins s σ H _ us Q I r ⟨v, d, rfl, hd, hs, hn, hdep, hz, q⟩
  · refine dict a [] [] ev ha ed fun vs es hkv hp => ?_
    cases hkv
    cases hp
    exact ⟨[], [], .nil, .nil, rfl, rfl⟩
  · refine dict a _ _ ev ha ed fun vs es hkv hp => ?_
    cases hkv with
    | @cons _ b _ l2 h1 h2 =>
      cases h2
      obtain ⟨k1, v1⟩ := b
      obtain ⟨e1, e2⟩ := h1
      obtain ⟨t, e2⟩ := e2
      dsimp only at e1 e2
      subst e1 e2
      cases hp with
      | @cons e kv es kvs h3 h4 h5 =>
        cases h5
        rcases keyIs_shape (k := Sum.inr x) (v := e.key) h3 with ⟨j, t2, z, _⟩ | ⟨y, t2, z, e3⟩
        · cases z
        cases z
        refine ⟨[], [], ?_, ?_, rfl, rfl⟩
        · show ReadsAll s.heap [e.key] [.str x] []
          rw [e3]
          exact .cons (as := []) (bs := []) (.str x t2) .nil
        · show ReadsAll s.heap [e.val] [.int i] []
          rw [h4]
          exact .cons (as := []) (bs := []) (.int i t) .nil
/-! ### calls where no guard stands around -/
def tCallG (sp : Sp) (t : TA) : TE := fun σ H Q => t σ H fun vs H1 => sp vs H1 Q E0
section
variable {X : Cx} {k : Nat} {f : Addr} {fd : FuncData} {ps : List Str} {sp : Sp} {x : Str} {p pos : Pos} {e : Expr} {es : List Expr} {t : TA}
theorem run_G {pins : List (Addr × Obj)} {σ : L2.St} {H : Hp} {s : Shared} {Q : VK} {us : List Value} {vs : List V} (F : FnOkG X.prog X.w X.K X.mg X.base k f fd ps sp) (gu : X.A.guards = some []) (hr : Room k X.A) (hb : Binds X.K fd ps [])
    (I : Inv X pins σ H s) (r : Vals vs us) (h : sp vs H Q E0) : wpAny (model X.prog X.w) X.A (call (.ref f) us) (EP X pins σ Q) X.xe s := by
  have hl : us.length = ps.length := r.length.symm.trans (F.len _ _ _ _ h)
  have b := hb s us I.kIn (by rw [List.append_nil]; exact hl)
  rw [List.append_nil] at b
  refine wpAny_call (codeAny_mono (F.run X.A X.stack s H ⟨us, []⟩ us vs Q E0 gu hr I.env0 b r h) fun r s' hq => ?_)
  match r, hq with
  | .error e, hq => exact False.elim hq
  | .ok (.ret u), hq => exact I.after hq
  | .ok .next, hq => exact False.elim hq
  | .ok .brk, hq => exact False.elim hq
  | .ok .cont, hq => exact False.elim hq
theorem pe_callG (F : FnOkG X.prog X.w X.K X.mg X.base k f fd ps sp) (gu : X.A.guards = some []) (hr : Room k X.A) (hg : Gl X x) (hm : X.mg x = some (.ref f)) (hk : PySem.W.keepIn X.K (.ref f) = true) (hb : Binds X.K fd ps [])
    (ha : PA X (e :: es) t) (hdb : (x == ("__debug__" : Str)) = false := by decide) (he : starEach (e :: es) X.env = (false, eval e X.env) :: starEach es X.env := by rfl) (hpl : (backTo pos (starEach es X.env)).any (·.1) = false := by rfl) :
    PE X (.Call (.Name x p) (e :: es) [] pos) (tCallG sp t) := by
  refine ⟨fun pins s σ H Q I h => wpAny_Call_Name_kw (ld_glob I hg hm ?_ hdb)⟩
  exact PySem.W.callWith_K (h₀ := X.base) I.ok.mod.kin hk (thn (ha.run pos pins s σ H _ I h) fun us s1 ⟨vs, H1, I1, r, q⟩ => ⟨I1.kIn, run_G F gu hr hb I1 r q⟩) he hpl
end
end G

set_option Elab.async false
set_option linter.all false
set_option maxRecDepth 100000
set_option maxHeartbeats 4000000
/-! What is printed is of Unicode's signs, too. -/
namespace G
open PySem PySem.Spec PyProof.Rows L2
theorem char_lt (d : Char) : d.toNat < 1114112 := by
  have h := d.valid
  have z : d.toNat = d.val.toNat := rfl
  rw [z]
  rcases h with h | ⟨_, h⟩
  · exact Nat.lt_trans h (by decide)
  · exact h
theorem reprChar_ok {q c x : Nat} (hq : q < 1114112) (hc : c < 1114112) (h : x ∈ PySem.Builtin.Str.reprChar q c) : x < 1114112 := by
  have hex : ∀ w : Nat, x ∈ List.replicate (w - ((Nat.toDigits 16 c).map Char.toNat).length) 48 ++ (Nat.toDigits 16 c).map Char.toNat → x < 1114112 := by
    intro w hw
    rcases List.mem_append.mp hw with hw | hw
    · rw [(List.mem_replicate.mp hw).2]
      decide
    · obtain ⟨d, _, rfl⟩ := List.mem_map.mp hw
      exact char_lt d
  unfold PySem.Builtin.Str.reprChar at h
  simp only [] at h
  have two : ∀ a b : Nat, a < 1114112 → b < 1114112 → x ∈ [a, b] → x < 1114112 := by
    intro a b ha hb hm
    simp only [List.mem_cons, List.not_mem_nil, or_false] at hm
    rcases hm with rfl | rfl <;> assumption
  split at h
  · exact two _ _ (by decide) hc h
  split at h
  · exact two _ _ (by decide) (by decide) h
  split at h
  · exact two _ _ (by decide) (by decide) h
  split at h
  · exact two _ _ (by decide) (by decide) h
  split at h
  · rw [List.mem_singleton.mp h]
    exact hc
  split at h
  · rcases List.mem_append.mp h with h | h
    · exact two _ _ (by decide) (by decide) h
    · exact hex _ h
  split at h
  · rcases List.mem_append.mp h with h | h
    · exact two _ _ (by decide) (by decide) h
    · exact hex _ h
  · rcases List.mem_append.mp h with h | h
    · exact two _ _ (by decide) (by decide) h
    · exact hex _ h
theorem reprQuote_lt (x : Str) : reprQuote x < 1114112 := by
  unfold reprQuote
  split <;> decide
theorem reprText_ok {x : Str} (h : OkS x) : OkS (reprText x) := by
  have key : ∀ (l : List Nat) (acc : Array Nat), (∀ c ∈ l, c < 1114112) → (∀ c ∈ acc.toList, c < 1114112) →
      ∀ c ∈ (l.foldl (fun out c => out ++ (PySem.Builtin.Str.reprChar (reprQuote x) c).toArray) acc).toList, c < 1114112 := by
    intro l
    induction l with
    | nil => intro acc _ ha; exact ha
    | cons c r ih =>
      intro acc hl ha
      refine ih _ (fun d hd => hl d (List.mem_cons_of_mem _ hd)) fun d hd => ?_
      rw [Array.toList_append] at hd
      rcases List.mem_append.mp hd with hd | hd
      · exact ha d hd
      · exact reprChar_ok (reprQuote_lt x) (hl c (List.mem_cons_self ..)) (by simpa using hd)
  intro c hc
  unfold reprText at hc
  dsimp only at hc
  rw [Array.toList_push, ← Array.foldl_toList] at hc
  rcases List.mem_append.mp hc with hc | hc
  · exact key x.cps.toList #[reprQuote x] h (fun d hd => by
      have e : d = reprQuote x := by simpa using hd
      rw [e]
      exact reprQuote_lt x) c hc
  · rw [List.mem_singleton.mp hc]
    exact reprQuote_lt x
theorem textFrom_ok : ∀ (ts : List Str) (k : Nat) (acc : Str), OkS acc → (∀ t ∈ ts, OkS t) → OkS (textFrom k acc ts)
  | [], k, acc, h, _ => h
  | t :: r, k, acc, h, hr => textFrom_ok r (k + 1) _ ((h.app (OkS.of _)).app (hr t (List.mem_cons_self ..))) fun u hu => hr u (List.mem_cons_of_mem _ hu)
theorem join_ok : ∀ (ts : List Str), (∀ t ∈ ts, OkS t) → OkS (Str.join ", " ts)
  | [], _ => OkS.of ""
  | [x], h => h x (List.mem_cons_self ..)
  | x :: y :: r, h => ((h x (List.mem_cons_self ..)).app (OkS.of ", ")).app (join_ok (y :: r) fun u hu => h u (List.mem_cons_of_mem _ hu))
mutual
theorem shown_ok : ∀ d : PyData, OkD d → OkS d.shown
  | .none, _ => by
    simp only [PyData.shown]
    exact OkS.of _
  | .bool b, _ => by
    simp only [PyData.shown]
    cases b <;> exact OkS.of _
  | .int i, _ => by
    simp only [PyData.shown]
    exact OkS.of _
  | .str x, h => by
    simp only [PyData.shown]
    exact reprText_ok (by simpa only [OkD] using h)
  | .list xs, h => by
    simp only [PyData.shown]
    exact (textFrom_ok _ _ _ (OkS.of _) (shownAll_ok xs (by simpa only [OkD] using h))).app (OkS.of _)
  | .tuple xs, h => by
    simp only [PyData.shown]
    exact ((OkS.of _).app (join_ok _ (shownAll_ok xs (by simpa only [OkD] using h)))).app (OkS.of _)
  | .dict kvs, h => by
    simp only [PyData.shown]
    exact ((OkS.of _).app (join_ok _ (shownKv_ok kvs (by simpa only [OkD] using h)))).app (OkS.of _)
theorem shownAll_ok : ∀ ds : List PyData, OkDs ds → ∀ t ∈ PyData.shownAll ds, OkS t
  | [], _, t, h => by simp [PyData.shownAll] at h
  | x :: xs, h, t, ht => by
    simp only [OkDs] at h
    simp only [PyData.shownAll, List.mem_cons] at ht
    rcases ht with rfl | ht
    · exact shown_ok x h.1
    · exact shownAll_ok xs h.2 t ht
theorem shownKv_ok : ∀ ds : List (PyData × PyData), OkKv ds → ∀ t ∈ PyData.shownKv ds, OkS t
  | [], _, t, h => by simp [PyData.shownKv] at h
  | (k, v) :: r, h, t, ht => by
    simp only [OkKv] at h
    simp only [PyData.shownKv, List.mem_cons] at ht
    rcases ht with rfl | ht
    · exact ((shown_ok k h.1).app (OkS.of _)).app (shown_ok v h.2.1)
    · exact shownKv_ok r h.2.2 t ht
end
theorem OkS.ok {x : Str} (h : OkS x) : PyData.strOk x = true := by
  unfold PyData.strOk
  rw [← Array.all_toList, List.all_eq_true]
  intro c hc
  exact decide_eq_true (h c hc)
end G

set_option Elab.async false
set_option linter.all false
set_option maxRecDepth 100000
set_option maxHeartbeats 4000000
/-! Errors as values: made, their fields read, asked by isinstance. -/
namespace G
open PySem PySem.Spec PyProof.Rows L2
/-- the error at a, of the class at C, with these fields -/
def Er (H : Hp) (a C : Addr) (fs : List (Str × V)) : Prop := (H a = some (exo a C none) ∧ fs = []) ∨ ∃ dx, H a = some (exo a C (some dx)) ∧ H dx = some (exd dx fs)
theorem Er.same {H H' : Hp} {a C : Addr} {fs : List (Str × V)} (e : Er H a C fs) (s : Same H H') : Er H' a C fs := by
  rcases e with ⟨h, f⟩ | ⟨dx, h, f⟩
  · exact .inl ⟨s _ _ h, f⟩
  · exact .inr ⟨dx, s _ _ h, s _ _ f⟩
/-- what a class of errors must say, by one test -/
def ecB (K : PySem.W.Frag) (C : Addr) : Bool :=
  PySem.W.findIn K (.ref C) "__setattr__" == some (some (.builtin "object.__setattr__")) && PySem.W.hasDictIn K C &&
  PySem.W.findIn K (.ref C) "__getattribute__" == some (some (.builtin "BaseException.__getattribute__")) && PySem.W.findIn K (.ref C) "__getattr__" == some none &&
  PySem.W.subIn K (.ref C) (.type "BaseException") == some true && PySem.W.findIn K (.ref C) "__class__" == some (some (.builtin "object.__class__")) &&
  PySem.W.mroIn K C (.type "object") == some true && PySem.W.keepIn K (.ref C) &&
  PySem.W.specialIn K (.builtin "object.__class__") "__get__" == some (some (.builtin "getset_descriptor.__get__")) && PySem.W.takesIn K (.builtin "object.__class__") == some true
structure EC (K : PySem.W.Frag) (C : Addr) : Prop where
  sa : PySem.W.findIn K (.ref C) "__setattr__" = some (some (.builtin "object.__setattr__"))
  hd : PySem.W.hasDictIn K C = true
  ga : PySem.W.findIn K (.ref C) "__getattribute__" = some (some (.builtin "BaseException.__getattribute__"))
  gt : PySem.W.findIn K (.ref C) "__getattr__" = some none
  sb : PySem.W.subIn K (.ref C) (.type "BaseException") = some true
  ca : PySem.W.findIn K (.ref C) "__class__" = some (some (.builtin "object.__class__"))
  mo : PySem.W.mroIn K C (.type "object") = some true
  kp : PySem.W.keepIn K (.ref C) = true
  cg : PySem.W.specialIn K (.builtin "object.__class__") "__get__" = some (some (.builtin "getset_descriptor.__get__"))
  ct : PySem.W.takesIn K (.builtin "object.__class__") = some true
theorem EC.of {K : PySem.W.Frag} {C : Addr} (h : ecB K C = true) : EC K C := by
  unfold ecB at h
  simp only [Bool.and_eq_true, beq_iff_eq] at h
  obtain ⟨⟨⟨⟨⟨⟨⟨⟨⟨a, b⟩, c⟩, d⟩, e⟩, f⟩, g⟩, i⟩, j⟩, k⟩ := h
  exact ⟨a, b, c, d, e, f, g, i, j, k⟩
theorem EC.cl {K : PySem.W.Frag} {C : Addr} (h : EC K C) : (PySem.W.clsIn K C).isSome = true := by
  obtain ⟨cd, hc, _⟩ := PySem.W.any_some h.hd
  rw [hc]
  rfl
/-- a built-in base: its facts for making, and for a field's store -/
structure BaseF (B newId initId : String) (bm : List Value) : Prop where
  ba : ExcBaseFacts B newId initId bm
  st : StoreFacts B bm "object.__setattr__" "object"
theorem baseVE : BaseF "ValueError" "ValueError.__new__" "ValueError.__init__" [.type "ValueError", .type "Exception", .type "BaseException", .type "object"] := ⟨F.excBase_ValueError, F.store_ValueError⟩
theorem baseLE : BaseF "LookupError" "LookupError.__new__" "LookupError.__init__" [.type "LookupError", .type "Exception", .type "BaseException", .type "object"] := ⟨F.excBase_LookupError, F.store_LookupError⟩
theorem baseEx : BaseF "Exception" "Exception.__new__" "Exception.__init__" [.type "Exception", .type "BaseException", .type "object"] := ⟨F.excBase_Exception, F.store_Exception⟩

/-! ### a field's store -/
section
variable {prog : Program} {w : World} {A : Around} {R : Result → Shared → Prop} {hp : Heap} {g : Array GenState} {d : Drawn} {t : Nat} {os : OsState}
/-- the first field of an error: its dict is made -/
theorem osa_first {B : String} {bm : List Value} {K : PySem.W.Frag} {name : Str} {tk : Tok} {v : Value} {x C t1 : Addr} (SF : StoreFacts B bm "object.__setattr__" "object") (X : K.In hp) (hx : hp.get? x = some (PySem.HandSPX.excO C t1))
    (ov : PySem.W.excOver K C bm = true) (ht : PySem.W.takerIn K C name = some none) (hh : PySem.W.hasDictIn K C = true)
    (hq : ∀ h' tk' dx, (∀ b o, b ≠ x → hp.get? b = some o → h'.get? b = some o) → hp.objs.size ≤ dx → dx ≠ x → h'.get? x = some { PySem.HandSPX.excO C t1 with dict := some dx } →
      h'.Ns1 dx (fun y => if y = name then some v else none) → R (.ok (.ret .none)) ⟨h', g, d, tk', os⟩) :
    codeAny (model prog w) A (.call (.builtin "object.__setattr__") ⟨[.ref x, .str name tk, v], []⟩) R ⟨hp, g, d, t, os⟩ := by
  have ne : x ≠ hp.objs.size := Nat.ne_of_lt (Heap.lt_size hx)
  refine PySem.W.osa_openX (od := none) (s := ⟨hp, g, d, t, os⟩) SF X ⟨hx, rfl, rfl, trivial⟩ ov ht fun b => ?_
  obtain ⟨cd, hc, hd'⟩ := PySem.W.any_some hh
  have L := PySem.W.looks_clsIn (M := model prog w) X hc
  refine wpAny_bind (wpAny_pure (wpAny_bind (PySem.W.instanceDict_exc (s := ⟨hp, g, d, t, os⟩) hx L hd' ?_)))
  refine PySem.HandSPX.store_in_new ?_ fun h' tk' hn hs => ?_
  · exact ⟨_, #[], _, (Heap.get?_update_ne _ _ _ _ ne.symm).trans (Heap.get?_push_at rfl rfl), rfl, fun e he => absurd he (by simp), fun _ => rfl⟩
  · have hx1 : (hp.push (PySem.W.dictOf [] 0)).get? x = some (PySem.HandSPX.excO C t1) := Heap.get?_push_of_some _ hx
    refine hq h' tk' hp.objs.size (fun b o hb ho => ?_) (Nat.le_refl _) ne.symm ?_ hn
    · refine (hs.2 b (Nat.ne_of_lt (Heap.lt_size ho))).trans ?_
      exact (Heap.get?_update_ne _ _ _ _ hb).trans (Heap.get?_push_of_some _ ho)
    · exact (hs.2 x ne).trans (Heap.get?_update_self _ hx1 rfl)
end
/-- at the class C a field may be stored on an error without a dict -/
structure ES (K : PySem.W.Frag) (C : Addr) (f : Str) : Prop where
  b : ∃ B newId initId bm, BaseF B newId initId bm ∧ PySem.W.excOver K C bm = true
  c : EC K C
  t : PySem.W.takerIn K C f = some none
section
variable {X : Cx} {pins : List (Addr × Obj)} {σ : L2.St} {H : Hp} {s : Shared} {a C : Addr} {f : Str} {y : V} {u : Value} {Q : Unit → Shared → Prop} {E : Value → Shared → Prop} {A : Around}
theorem os_first (T : ES X.K C f) (I : Inv X pins σ H s) (e : H a = some (exo a C none)) (ry : RelV y u)
    (h : ∀ dx s', H dx = none → dx ≠ a → Inv X pins σ (upd (upd H dx (exd dx [(f, y)])) a (exo a C (some dx))) s' → Q () s') : wpAny (model X.prog X.w) A (setAttr (.ref a) f u) Q E s := by
  obtain ⟨B, _, _, bm, BF, ov⟩ := T.b
  obtain ⟨t1, ho⟩ := exo_at I.hok e
  obtain ⟨hp, g, d, t, os⟩ := s
  refine PySem.W.set_plain I.kIn (ox := PySem.HandSPX.excO C t1) (od := none) ⟨ho, rfl, rfl, trivial⟩ T.c.sa ?_
  refine osa_first BF.st I.kIn ho ov T.t T.c.hd fun h' tk' dx k dn dne hx hn => ?_
  have nH : H dx = none := I.hok.fresh dn
  have old : ∀ {b : Addr} {o : Obj}, hp.get? b = some o → b ≠ dx := fun q z => Nat.lt_irrefl _ (Nat.lt_of_lt_of_le (z ▸ Heap.lt_size q) dn)
  have una : ∀ {b : Addr}, H b = none → b ≠ a := fun n z => by rw [z, e] at n; cases n
  have same : ∀ {b : Addr}, b ≠ a → b ≠ dx → upd (upd H dx (exd dx [(f, y)])) a (exo a C (some dx)) b = H b := fun h1 h2 => by rw [upd_ne h1, upd_ne h2]
  have U : Un X.fs [] H (upd (upd H dx (exd dx [(f, y)])) a (exo a C (some dx))) hp h' :=
    { keep := fun b o q n _ _ => k b o (una n) q
      slot := fun b o q n _ _ => ⟨_, k b o (una n) q⟩
      free := fun b o q n _ => (same (una n) (old q)).trans n
      there := fun b o q _ => if hb : b = a then ⟨_, hb ▸ hx⟩ else ⟨o, k b o hb q⟩
      tups := fun b xs q => (same (at_ne e q exo_tup) (ne_of_none q nH)).trans q
      frzs := fun b o v q => (same (at_ne e q exo_frz) (ne_of_none q nH)).trans q
      tbls := fun b ps q => ⟨#[], by rw [same (at_ne e q exo_tbl) (ne_of_none q nH), q]; simp⟩ }
  refine h dx _ nH dne (I.un (t' := tk') U fun b o q => ?_)
  by_cases hb : b = a
  · subst hb
    rw [upd_same] at q
    cases q
    exact exo_ok hx
  by_cases hd : b = dx
  · subst hd
    rw [upd_ne hb, upd_same] at q
    cases q
    exact exd_ok hn (relO_put (fs := []) ry fun _ => True.intro)
  rw [same hb hd] at q
  refine (I.hok b o q).stay (fun c v hc z => k c v ?_ z) (fun c hc => (same (at_ne e hc exo_own) (ne_of_none hc nH)).trans hc) fun c xs hc => (same (at_ne e hc exo_tup) (ne_of_none hc nH)).trans hc
  rcases hc with rfl | hc
  · exact hb
  · exact at_ne e hc exo_own
end
/-- o.f = e, o an error without fields -/
def tOs1 (K : PySem.W.Frag) (f : Str) (to te : TE) : TS := fun D σ H => te σ H fun y H1 => to σ H1 fun x H2 => ∃ a C : Addr, x = .ref a ∧ ES K C f ∧ H2 a = some (exo a C none) ∧ ∀ dx, H2 dx = none → dx ≠ a → D.nx σ (upd (upd H2 dx (exd dx [(f, y)])) a (exo a C (some dx)))
section
variable {X : Cx} {o e : Expr} {es : List Expr} {to te : TE} {ta : TA} {f : Str} {p p' pos : Pos}
theorem ps_os1 (ho : PE X o to) (he : PE X e te) (hs : swapsWith e (some (.Attribute o f p')) pos.line X.env = pure false := by rfl) : PS X (.Assign [.Attribute o f p'] e pos) (tOs1 X.K f to te) := by
  refine ⟨fun pins s σ H D I h => plainObj_wpAny_Assign_Attribute (thn (he.run pins s σ H _ I h) fun v s1 ⟨y, H1, I1, r1, q1⟩ => thn (ho.run pins s1 σ H1 _ I1 q1) fun u s2 ⟨x, H2, I2, r2, a, C, ex, T, ea, q⟩ => ?_) hs⟩
  subst ex
  obtain rfl : u = Value.ref a := r2
  exact os_first T I2 ea r1 fun dx s' n ne J => ⟨σ, _, J, q dx n ne⟩
/-! ### C(e, ..) -/
/-- the class is one with an own __init__ at fI -/
structure EM (K : PySem.W.Frag) (C fI : Addr) : Prop where
  b : ∃ B newId initId bm, BaseF B newId initId bm ∧ PySem.W.excInitIn K C bm newId = true
  kp : PySem.W.keepIn K (.ref C) = true
  i : PySem.W.findIn K (.ref C) "__init__" = some (some (.ref fI))
  t : PySem.W.typeIn K (.ref fI) = some (.type "function")
def tMkE (C : Addr) (sp : Sp) (ta : TA) : TE := fun σ H Q => ta σ H fun vs H1 => vs.length ≤ 1000 ∧ ∀ a, H1 a = none → sp (.ref a :: vs) (upd H1 a (exo a C none)) (fun v H2 => v = .non ∧ Q (.ref a) H2) (fun _ _ _ => False)
theorem pe_mkE {CX : CXT} {x : Str} {C fI : Addr} {k : Nat} {fd : FuncData} {ps : List Str} {sp : Sp} (M : EM X.K C fI) (F1 : FnOk X.prog X.w X.K X.mg X.base CX k fI fd ps sp) (hr : Room (k + 1) X.A) (hb : Binds X.K fd ps []) (hx : Passes CX X (fun _ _ _ => False))
    (hg : Gl X x) (hm : X.mg x = some (.ref C)) (ha : PA X (e :: es) ta)
    (hdb : (x == ("__debug__" : Str)) = false := by decide) (he : starEach (e :: es) X.env = (false, eval e X.env) :: starEach es X.env := by rfl) (hpl : (backTo pos (starEach es X.env)).any (·.1) = false := by rfl) :
    PE X (.Call (.Name x p) (e :: es) [] pos) (tMkE C sp ta) := by
  refine ⟨fun pins s σ H Q I h => ?_⟩
  obtain ⟨B, newId, initId, bm, BF, q⟩ := M.b
  refine wpAny_Call_Name_kw (ld_glob I hg hm ?_ hdb)
  refine PySem.W.callWith_K (h₀ := X.base) I.ok.mod.kin M.kp (thn (ha.run pos pins s σ H _ I h) fun us s1 ⟨vs, H1, I1, r1, hz, q1⟩ => ⟨I1.kIn, ?_⟩) he hpl
  obtain ⟨nm, N, qn, bs, bm', hdct, sn, sub, ab, col, dd, k0, k1, k2, k3, k5, hC, hT⟩ := PySem.W.excInit_of I1.kIn q
  obtain ⟨hp, g, dr, tk, os⟩ := s1
  have hsz : hp.objs.size ≤ hp.objs.size + 1 := Nat.le_succ _
  have hq := q1 (hp.objs.size + 1) (I1.hok.fresh hsz)
  have I2 : Inv X pins σ (upd H1 (hp.objs.size + 1) (exo (hp.objs.size + 1) C none)) ⟨(hp.push (PySem.W.kdv_tup us)).push (PySem.HandSPX.excO C hp.objs.size), g, dr, tk, os⟩ :=
    I1.laid (t' := tk) (a := hp.objs.size + 1) (fun b o z => Heap.get?_push_of_some _ (Heap.get?_push_of_some _ z)) hsz (exo_ok (by heap_get))
  have r2 : Vals (V.ref (hp.objs.size + 1) :: vs) (Value.ref (hp.objs.size + 1) :: us) := .cons rfl r1
  have hl : (Value.ref (hp.objs.size + 1) :: us).length = ps.length := r2.length.symm.trans (F1.len _ _ _ _ hq)
  have hus : us.length ≤ sizeLine := by rw [← r1.length]; exact line1000 hz
  have hbb := hb _ (Value.ref (hp.objs.size + 1) :: us) I2.kIn (by rw [List.append_nil]; exact hl)
  rw [List.append_nil] at hbb
  show wpAny _ _ (call (.ref C) us) _ _ _
  refine wpAny_call (PySem.HandSPX.call_own BF.ba hT hC (PySem.W.looks_findIn I1.kIn M.i) (fun self => PySem.W.bind_fn I1.kIn self M.t) hus
    (codeAny_mono (F1.run _ X.stack _ _ ⟨Value.ref (hp.objs.size + 1) :: us, []⟩ (Value.ref (hp.objs.size + 1) :: us) _ _ (fun _ _ _ => False) (hr.make C us []) (I2.env0.make C us []) hbb r2 hq) fun r s' hq' => ?_))
  match r, hq' with
  | .error er, hq' => exact hx pins σ _ _ er s' I2 hq'
  | .ok (.ret u), hq' =>
    obtain ⟨v, H', I3, rv, ev, q3⟩ := I2.after hq'
    subst ev
    exact ⟨rv, V.ref (hp.objs.size + 1), H', I3, rfl, q3⟩
  | .ok .next, hq' => exact False.elim hq'
  | .ok .brk, hq' => exact False.elim hq'
  | .ok .cont, hq' => exact False.elim hq'
/-- C(), a class without an own __init__ -/
theorem pe_mkE0 {x : Str} {C : Addr} {B newId initId : String} {bm : List Value} (BF : BaseF B newId initId bm) (q : PySem.W.excIn X.K C bm newId = true) (kC : PySem.W.keepIn X.K (.ref C) = true) (hg : Gl X x) (hm : X.mg x = some (.ref C)) (hdb : (x == ("__debug__" : Str)) = false := by decide) :
    PE X (.Call (.Name x p) [] [] pos) (fun _ H Q => ∀ a, H a = none → Q (.ref a) (upd H a (exo a C none))) := by
  refine ⟨fun pins s σ H Q I h => wpAny_Call_Name_kw (ld_glob I hg hm ?_ hdb)⟩
  refine PySem.W.callWith_K0 I.kIn kC ?_
  obtain ⟨bm', N, nm, qn, bs, hdct, sn, sub, ab, col, dd, k0, k1, k2, k3, k5, mN, hC, hN, hni, T⟩ := exc_obj I.kIn q
  obtain ⟨hp, g, dr, tk, os⟩ := s
  refine wpAny_call_exc_subT BF.ba T hC hN hni (fun h' a hm => ?_) (Nat.zero_le _)
  obtain ⟨t1, ht, _, _⟩ := hm.there
  have hn : H a = none := I.hok.gone hm.new
  exact ⟨.ref a, upd H a (exo a C none), I.laidN hm.keeps hm.new hn (exo_ok ht), rfl, h a hn⟩
/-! ### a field of an error -/
def tErF (K : PySem.W.Frag) (f : Str) (to : TE) : TE := fun σ H Q => to σ H fun x H1 => ∃ (a C : Addr) (fs : List (Str × V)) (v : V), x = .ref a ∧ Er H1 a C fs ∧ EC K C ∧ PySem.W.findIn K (.ref C) f = some none ∧ fs.lookup f = some v ∧ Q v H1
theorem pe_erF (ho : PE X o to) (hb : attributeBase o f X.env (eval o X.env) = eval o X.env := by rfl) : PE X (.Attribute o f pos) (tErF X.K f to) := by
  refine ⟨fun pins s σ H Q I h => attr_of hb (thn (ho.run pins s σ H _ I h) fun u s1 ⟨x, H1, I1, rx, a, C, fs, v, ex, er, c, hno, hl, q⟩ => ?_)⟩
  subst ex
  obtain rfl : u = Value.ref a := rx
  rcases er with ⟨_, z⟩ | ⟨dx, ea, ed⟩
  · subst z
    cases hl
  obtain ⟨t1, ho1⟩ := exo_at I1.hok ea
  obtain ⟨mA, hns, rel⟩ := exd_at I1.hok ed
  obtain ⟨od, hod, hl2⟩ := lookIn_ns hns
  obtain ⟨u, hu, ru⟩ := RelO.some_of (v := v) (o := mA f) (by rw [← hl]; exact rel f)
  exact PySem.HandSPX.exc_get I1.kIn (od := some od) ⟨ho1, rfl, rfl, hod⟩ c.ga c.gt c.sb (PySem.W.findObj_own c.hd hno rfl (by rw [hl2, hu])) (handed_of ru) ⟨v, H1, I1.tok _, ru, q⟩
/-! ### isinstance of an error -/
def rIsEr (K : PySem.W.Frag) : List V → Hp → VK → Prop := fun vs H Q => ∃ (a C : Addr) (fs : List (Str × V)) (c : V) (cv : Value) (b : Bool), vs = [.ref a, c] ∧ Er H a C fs ∧ EC K C ∧ ClsV c cv ∧ PySem.W.kitOne K (.ref C) cv = some b ∧ Q (.bl b) H
theorem call_isEr : CallR X (.builtin "isinstance") (rIsEr X.K) := by
  intro pins s σ H vs us Q I r h
  obtain ⟨a, C, fs, c, cv, b, rfl, er, ec, hc, e, q⟩ := h
  obtain ⟨u1, u2, rfl, r1, r2⟩ := vals2 r
  obtain rfl : u1 = Value.ref a := r1
  have e2 := hc.eq r2
  subst e2
  have key : ∀ (ox : Obj) (od : Option Obj), PySem.W.InstAt s.heap a ox C od → wpAny (model X.prog X.w) X.A (call (.builtin "isinstance") [.ref a, u2]) (EP X pins σ Q) X.xe s := fun ox od J =>
    PySem.W.kia_one (PySem.W.kitx_exc (ox := ox) (od := od) ec.cl ec.ga ec.gt ec.sb ec.ca ec.cg ec.ct ec.mo) I.kIn J e (fun z => nomatch z) fun tk => ⟨.bl b, H, I.tok tk, rfl, q⟩
  rcases er with ⟨ea, _⟩ | ⟨dx, ea, ed⟩
  · obtain ⟨t1, ho1⟩ := exo_at I.hok ea
    exact key _ none ⟨ho1, rfl, rfl, trivial⟩
  · obtain ⟨t1, ho1⟩ := exo_at I.hok ea
    obtain ⟨mA, hns, rel⟩ := exd_at I.hok ed
    obtain ⟨od, hod, _⟩ := lookIn_ns hns
    exact key _ (some od) ⟨ho1, rfl, rfl, hod⟩
end
end G

set_option Elab.async false
set_option linter.all false
set_option maxRecDepth 100000
set_option maxHeartbeats 4000000
/-! An own error's __init__ that stores one field. -/
namespace G
open PySem PySem.Spec PyProof.Rows L2
/-- self.f = f -/
def spI1 (K : PySem.W.Frag) (f : Str) : Sp := fun vs H Q _ => ∃ (a C : Addr) (v : V), vs = [.ref a, v] ∧ ES K C f ∧ H a = some (exo a C none) ∧ ∀ dx, H dx = none → dx ≠ a → Q .non (upd (upd H dx (exd dx [(f, v)])) a (exo a C (some dx)))
end G

set_option Elab.async false
set_option linter.all false
set_option maxRecDepth 100000
set_option maxHeartbeats 4000000
/-! Further rules: a base's method called by its class; a local that holds one of several defs, called with a star; an own error over any base raised, its field read where it is caught. -/
namespace G
open PySem PySem.Spec PyProof.Rows L2 StX ClX
section
variable {X : Cx} {CX : CXT} {k i : Nat} {f C : Addr} {mc : Value} {fd : FuncData} {ps : List Str} {sp : Sp} {E : XK} {x m n : Str} {o e : Expr} {es : List Expr} {te ta : TE} {t : TA} {p apos pos : Pos}
/-- C.m(e, ..), m a plain def of the class C -/
def tCfn (C : Addr) (sp : Sp) (E : XK) (ta : TE) (t : TA) : TE := fun σ H Q => ta σ H fun x H1 => x = .ref C ∧ t σ H1 fun vs H2 => sp vs H2 Q E
theorem pe_cfn {pl : Sem Bool} (he : PE X o ta) (r : CRead X.K C mc) (c : PySem.W.findCls X.K (.ref C) mc m = some (.val (.ref f))) (kf : PySem.W.keepIn X.K (.ref f) = true) (F : FnOk X.prog X.w X.K X.mg X.base CX k f fd ps sp) (hr : Room k X.A) (hb : Binds X.K fd ps []) (hx : Passes CX X E) (ha : PA X (e :: es) t)
    (hst : starEach (e :: es) X.env = (false, eval e X.env) :: starEach es X.env := by rfl) (hpl : (backTo pos (starEach es X.env)).any (·.1) = false := by rfl)
    (ht : eval (.Call (.Attribute o m apos) (e :: es) [] pos) X.env = (do
      let ov ← eval o X.env
      standAt apos.atName
      let (f, first) ← holding [ov] (getMethod ov m pl)
      callWith pos f first (backTo pos (starEach (e :: es) X.env)) (backToKw pos (keywordEach [] X.env))) := by rfl) :
    PE X (.Call (.Attribute o m apos) (e :: es) [] pos) (tCfn C sp E ta t) := by
  refine ⟨fun pins s σ H Q I h => ?_⟩
  refine PySem.W.methodCall_KW (pl := pl) (thn (he.run pins s σ H _ I h) fun u s1 ⟨y, H1, I1, ry, ey, q⟩ => ?_) ht
  subst ey
  obtain rfl : u = Value.ref C := ry
  refine PySem.W.method_cls I1.kIn r.ga (getcval_ok (v := .ref f) I1 r ⟨c, rfl⟩ fun s2 I2 => ?_)
  refine PySem.W.callWith_K (first := []) (h₀ := X.base) I.ok.mod.kin kf (thn (ha.run pos pins s2 σ H1 _ I2 q) fun us s3 ⟨vs, H2, I3, rv, q2⟩ => ⟨I3.kIn, ?_⟩) hst hpl
  have e0 : vs ++ [] = vs := List.append_nil vs
  exact run_fn F hr hb .nil hx I3 rv (by rw [e0]; exact q2)
/-- one of several defs that a local may hold -/
structure HeldX (P : Program) (w : World) (K : PySem.W.Frag) (mg : Str → Option Value) (base : Heap) (CX : CXT) (k : Nat) (f : Addr) (sp : Sp) : Prop where
  ex : ∃ (fd : FuncData) (ps : List Str), FnOk P w K mg base CX k f fd ps sp ∧ PySem.W.keepIn K (.ref f) = true ∧ Binds K fd ps []
def tCallV (i : Nat) (S : Addr → Sp → Prop) (E : XK) (t : TA) : TE := fun σ H Q => ∃ f sp, σ[i]? = some (some (.ref f)) ∧ S f sp ∧ t σ H fun vs H1 => sp vs H1 Q E
/-- x(e, .., *y), x a local -/
theorem pe_callV {S : Addr → Sp → Prop} (A : ∀ f sp, S f sp → HeldX X.prog X.w X.K X.mg X.base CX k f sp) (hr : Room k X.A) (hN : X.N[i]? = some x) (hv : Vis X.env.scope x) (hx : Passes CX X E) (ha : PA X (e :: es) t)
    (hdb : (x == ("__debug__" : Str)) = false := by decide) (hcd : (x == ("__classdict__" : Str)) = false := by decide)
    (he : starEach (e :: es) X.env = (false, eval e X.env) :: starEach es X.env := by rfl) (hst : (backTo pos (starEach es X.env)).any (·.1) = true := by rfl) : PE X (.Call (.Name x p) (e :: es) [] pos) (tCallV i S E t) := by
  refine ⟨fun pins s σ H Q I ⟨f, sp, hs, hS, ht⟩ => ?_⟩
  obtain ⟨fd, ps, F, hk, hb⟩ := (A f sp hS).ex
  refine wpAny_Call_Name_kw (thn ((pe_var (pos := p) hN hv hdb hcd).run pins s σ H (fun v H1 => v = .ref f ∧ H1 = H) I ⟨.ref f, hs, rfl, rfl⟩) fun u s1 ⟨v, H1, I1, r1, q1⟩ => ?_)
  obtain ⟨rfl, rfl⟩ := q1
  cases r1
  refine PySem.W.callWith_S2 (h₀ := X.base) I.ok.mod.kin hk (thn (ha.run pos pins s1 σ _ _ I1 ht) fun us s2 ⟨vs, H2, I2, r, q⟩ => ⟨I2.kIn, ?_⟩) he hst
  have e0 : vs ++ [] = vs := List.append_nil vs
  exact run_fn F hr hb .nil hx I2 r (by rw [e0]; exact q)
/-! ### raise C(e), C's own __init__ keeping sp -/
def tPmk (C : Addr) (sp : Sp) (ta : TA) : L2.St → Hp → XK → Prop := fun σ H Q => ta σ H fun vs H1 => vs.length ≤ 1000 ∧ ∀ a, H1 a = none → sp (.ref a :: vs) (upd H1 a (exo a C none))
  (fun v H2 => v = .non ∧ ∃ (d : Addr) (fs : List (Str × V)), H2 a = some (exo a C (some d)) ∧ H2 d = some (exd d fs) ∧ H1 d = none ∧ Q (.ref C) (some d) (upd (del H2 a) d (.xd fs))) (fun _ _ _ => False)
theorem pmk_E {fI : Addr} (M : EM X.K C fI) (R : Raises X (.ref C)) (F1 : FnOk X.prog X.w X.K X.mg X.base CX k fI fd ps sp) (hr : Room (k + 1) X.A) (hb : Binds X.K fd ps []) (hx : Passes CX X (fun _ _ _ => False))
    (hg : Gl X x) (hm : X.mg x = some (.ref C)) (ha : PA X (e :: es) t)
    (hdb : (x == ("__debug__" : Str)) = false := by decide) (he : starEach (e :: es) X.env = (false, eval e X.env) :: starEach es X.env := by rfl) (hpl : (backTo pos (starEach es X.env)).any (·.1) = false := by rfl) :
    PMk X (.Call (.Name x p) (e :: es) [] pos) (tPmk C sp t) := by
  intro pins s σ H Q I h
  obtain ⟨B, newId, initId, bm, BF, q⟩ := M.b
  refine wpAny_Call_Name_kw (ld_glob I hg hm ?_ hdb)
  refine PySem.W.callWith_K (h₀ := X.base) I.ok.mod.kin M.kp (thn (ha.run pos pins s σ H _ I h) fun us s1 ⟨vs, H1, I1, r1, hz, q1⟩ => ⟨I1.kIn, ?_⟩) he hpl
  obtain ⟨nm, N, qn, bs, bm', hdct, sn, sub, ab, col, dd, k0, k1, k2, k3, k5, hC, hT⟩ := PySem.W.excInit_of I1.kIn q
  obtain ⟨hp, g, dr, tk, os⟩ := s1
  have hsz : hp.objs.size ≤ hp.objs.size + 1 := Nat.le_succ _
  have hq := q1 (hp.objs.size + 1) (I1.hok.fresh hsz)
  have old : ∀ b o, hp.get? b = some o → ((hp.push (PySem.W.kdv_tup us)).push (PySem.HandSPX.excO C hp.objs.size)).get? b = some o := fun b o z => Heap.get?_push_of_some _ (Heap.get?_push_of_some _ z)
  have I2 : Inv X pins σ (upd H1 (hp.objs.size + 1) (exo (hp.objs.size + 1) C none)) ⟨(hp.push (PySem.W.kdv_tup us)).push (PySem.HandSPX.excO C hp.objs.size), g, dr, tk, os⟩ :=
    I1.laid (t' := tk) (a := hp.objs.size + 1) old hsz (exo_ok (by heap_get))
  have r2 : Vals (V.ref (hp.objs.size + 1) :: vs) (Value.ref (hp.objs.size + 1) :: us) := .cons rfl r1
  have hl : (Value.ref (hp.objs.size + 1) :: us).length = ps.length := r2.length.symm.trans (F1.len _ _ _ _ hq)
  have hus : us.length ≤ sizeLine := by rw [← r1.length]; exact line1000 hz
  have hbb := hb _ (Value.ref (hp.objs.size + 1) :: us) I2.kIn (by rw [List.append_nil]; exact hl)
  rw [List.append_nil] at hbb
  show wpAny _ _ (call (.ref C) us) _ _ _
  refine wpAny_call (PySem.HandSPX.call_own BF.ba hT hC (PySem.W.looks_findIn I1.kIn M.i) (fun self => PySem.W.bind_fn I1.kIn self M.t) hus
    (codeAny_mono (F1.run _ X.stack _ _ ⟨Value.ref (hp.objs.size + 1) :: us, []⟩ (Value.ref (hp.objs.size + 1) :: us) _ _ (fun _ _ _ => False) (hr.make C us []) (I2.env0.make C us []) hbb r2 hq) fun r s' hq' => ?_))
  match r, hq' with
  | .error er, hq' => exact hx pins σ _ _ er s' I2 hq'
  | .ok (.ret u), hq' =>
    obtain ⟨v, H2, os2, bare2, un2, hok2, rv, ev, d, fs, ea, ed, hd1, q2⟩ := hq'
    subst ev
    obtain ⟨h2, g2, d2, t2, os'⟩ := s'
    exact ⟨rv, mk_end R I1 hsz old un2 hok2 os2 bare2 ea ed hd1 q2⟩
  | .ok .next, hq' => exact False.elim hq'
  | .ok .brk, hq' => exact False.elim hq'
  | .ok .cont, hq' => exact False.elim hq'
/-- the error that the suite holds (at a; its class cls, its dict d): a field -/
def tCapF (K : PySem.W.Frag) (a : Addr) (cls : Value) (d : Option Addr) (f : Str) (te : TE) : TE := fun σ H Q => te σ H fun x H1 => x = .ref a ∧ ∃ (C dd : Addr) (fs : List (Str × V)) (v : V), cls = .ref C ∧ EC K C ∧ PySem.W.findIn K (.ref C) f = some none ∧ d = some dd ∧ H1 dd = some (.xd fs) ∧ fs.lookup f = some v ∧ Q v H1
theorem pe_capF {a : Addr} {oe : Obj} {cls : Value} {d : Option Addr} {pn : List (Addr × Obj)} {e : Expr} {te : TE} {pos : Pos} {f : Str} (hz : Zc cls d oe) (hf : ∃ vs, oe.data = .fields vs) (he : PE (X.suite a ((a, oe) :: pn)) e te)
    (hb : attributeBase e f X.env (eval e X.env) = eval e X.env := by rfl) : PE (X.suite a ((a, oe) :: pn)) (.Attribute e f pos) (tCapF X.K a cls d f te) := by
  refine ⟨fun pins s σ H Q I h => attr_of hb (thn (he.run pins s σ H _ I h) fun u s1 ⟨y, H1, I1, ry, ey, C, dd, fs, v, ec, T, hno, ed, ea, hl, q⟩ => ?_)⟩
  subst ey
  obtain rfl : u = Value.ref a := ry
  subst ec ed
  obtain ⟨ha, _⟩ := I1.pin (a, oe) (List.mem_append_left _ List.mem_cons_self)
  obtain ⟨vs, hd⟩ := hf
  obtain ⟨mA, hns, hr⟩ := (show ObjOk X.prog X.w H1 s1.heap dd (.xd fs) from I1.hok dd _ ea)
  obtain ⟨od, ho, hl2⟩ := lookIn_ns hns
  obtain ⟨u, hu, ru⟩ := RelO.some_of (v := v) (o := mA f) (by rw [← hl]; exact hr f)
  have J : PySem.W.InstAt s1.heap a oe C (some od) := ⟨ha, hz.1, by unfold PySem.W.notCls; rw [hd] <;> rfl, by rw [hz.2]; exact ho⟩
  exact PySem.HandSPX.exc_get I1.kIn J T.ga T.gt T.sb (PySem.W.findObj_own T.hd hno rfl (by rw [hl2, hu])) (handed_of ru) ⟨v, H1, I1.tok _, ru, q⟩
end
end G

set_option Elab.async false
set_option linter.all false
set_option maxRecDepth 100000
set_option maxHeartbeats 4000000
/-! The head by facts read by a Hook: the end for FnOkG, defs and methods out of what the Hook says. -/
namespace G
open PySem PySem.Spec PyProof.Rows L2 StX ClX
theorem walk_ofGE {l : PySem.W.OpenLaw} {n k : Nat} {q : Program} {loose : List Str} {XP : (Str → Option Value) → Heap → Prop} {YP : World → Heap → Prop}
    {d : DefRec} {x : Str} (hn : l.most = some n) (hn2 : n ≤ sizeLine) (hdf : d.params.defaults = []) (hr : Room k callerA)
    (F : ∀ (w : World) (mg : Str → Option Value) (fa : Addr) (h : Heap), YP w h → h.Ns mainGlobals mg → mg d.name = some (.ref fa) →
      ∃ (K : PySem.W.Frag) (fd : FuncData), K.In h ∧ (∀ (s : Shared) (u : Value), BindsTo s fd ⟨[u], []⟩ [(x, u)]) ∧
        ∀ base : Heap, K.In base → base.Ns mainGlobals mg → FnOkG l.prog w K mg base k fa fd [x] (spLawN K n)) :
    PySem.W.WalkO q loose XP YP l.row.toRowW d [] (fun f vs => PySem.call f vs) := by
  refine Att.attach_call hn hdf fun w s₀ s₁ mg mb fa o pm cd doc a vs ns Gr Y ho hd hcd hmg hobj hints hlen hgens => ?_
  obtain ⟨K, fd, KX, hb, hF⟩ := F w mg fa _ Y Gr.T.g hmg
  have rv := vals_ints hints
  have hl : ns.length ≤ sizeLine := Nat.le_trans hlen hn2
  have goal := @call_at l.prog w K mg mb k n fa a fd x s₁ vs ns KX Gr.T.g Gr.T.b Gr.T.builtins Gr.T.nolimit hgens hobj hlen hr hF hb
  cases hk : K.lookup a with
  | some o1 =>
    have e := KX a o1 hk
    rw [hobj] at e
    cases e
    refine goal (fun _ => none) (fun _ => Or.inl rfl) (Or.inr ⟨_, vs.toArray, _, hk, rfl, rfl, rfl, ?_, by simpa using rv⟩) (fun b u z => nomatch z) (fun b z => absurd rfl z) fun z => absurd rfl z
    rw [List.size_toArray, hints.length]
    exact hl
  | none =>
    let frozen : HO := .frz { cls := .type "list", data := .seq vs.toArray } (.lst (ns.map V.int))
    have at_a : ∀ b, b = a → (fun b => if b = a then some frozen else none : Hp) b = some frozen := fun b hb => if_pos hb
    have off_a : ∀ b, b ≠ a → (fun b => if b = a then some frozen else none : Hp) b = none := fun b hb => if_neg hb
    refine goal (fun b => if b = a then some frozen else none) (fun b => ?_) (Or.inl (Or.inr ⟨_, at_a a rfl⟩)) (fun b u z => ?_) (fun b z => ?_) fun _ => hk
    · by_cases hb : b = a
      · exact Or.inr ⟨_, _, at_a b hb⟩
      · exact Or.inl (off_a b hb)
    · by_cases hb : b = a
      · rw [at_a b hb] at z
        cases z
        subst hb
        exact ⟨hobj, by rw [List.length_map]; exact hl, vs, _, rv, hobj⟩
      · rw [off_a b hb] at z
        cases z
    · by_cases hb : b = a
      · exact hb
      · exact absurd (off_a b hb) z
/-- a def without defaults, as the Hook tells it -/
theorem fun_ofD {K : PySem.W.Frag} {x qual : Str} {st : Stmt} {f : Addr} {fd : FuncData} (F : FunD K x qual (defArgs st) (defBody st) (defScope st) [] [] f fd) : Fun K x qual st f fd := by
  obtain ⟨oc, od, dV, kV, doc, pm, an, cdv, ct, osl, rfl, lk, hcd, hD, _⟩ := F.ex
  rcases hD with ⟨_, rfl⟩ | ⟨e, _⟩
  · exact ⟨⟨oc, od, kV, doc, pm, an, cdv, ct, osl, rfl, lk, hcd⟩, F.kp⟩
  · exact absurd rfl e
/-- a def of the module and how it is called -/
structure DfX (K : PySem.W.Frag) (mg : Str → Option Value) (x : Str) (st : Stmt) (ps : List Str) (f : Addr) (fd : FuncData) : Prop where
  F : Fun K x x st f fd
  b : Binds K fd ps []
  m : mg x = some (.ref f)
/-- a method -/
structure MdX (K : PySem.W.Frag) (C : Addr) (x q : Str) (st : Stmt) (ps : List Str) (f : Addr) (fd : FuncData) : Prop where
  F : Fun K x q st f fd
  b : Binds K fd ps []
  m : Meth K C x f
/-- how a def's arguments bind -/
def BindOk (x qual : Str) (st : Stmt) (ps : List Str) : Prop := ∀ (kV doc pm : Value) (an : Option Addr) (cdv ct : Value) (us : List Value), us.length = ps.length → bindArgs (PySem.W.fnOf x qual (defArgs st) (defBody st) (defScope st) .none kV doc pm an cdv ct) ⟨us, []⟩ = pure (ps.zip us)
abbrev dDef (x : Str) (st : Stmt) : He.DefD := ⟨(x, none), x, x, defArgs st, defBody st, defScope st, [], []⟩
abbrev dMet (C x q : Str) (st : Stmt) : He.DefD := ⟨(C, some x), x, q, defArgs st, defBody st, defScope st, [], []⟩
section
variable {K : PySem.W.Frag} {h : Heap} {mg : Str → Option Value} {fa : List He.Fa} {fn : List He.DefD}
theorem dfx (X : K.In h) (G : h.Ns mainGlobals mg) (c : He.SaysD fa fn K) {x : Str} {st : Stmt} {ps : List Str} (i j : Nat) (hb : BindOk x x st ps) (hd : fn[i]? = some (dDef x st)) (hf : fa[j]? = some (.glo x)) : ∃ fd, DfX K mg x st ps (He.ga K x) fd := by
  obtain ⟨fd, F⟩ := c.def_ i hd
  have F2 : Fun K x x st (He.ga K x) fd := fun_ofD F
  exact ⟨fd, F2, F2.binds hb, He.glo_ok X G (c.fact j hf)⟩
theorem mdx (c : He.SaysD fa fn K) {C x q : Str} {st : Stmt} {ps : List Str} (i j : Nat) (hb : BindOk x q st ps) (hd : fn[i]? = some (dMet C x q st)) (hf : fa[j]? = some (.meth C x)) : ∃ fd, MdX K (He.ga K C) x q st ps (He.ma K (He.ga K C) x) fd := by
  obtain ⟨fd, F⟩ := c.def_ i hd
  have F2 : Fun K x q st (He.ma K (He.ga K C) x) fd := fun_ofD F
  exact ⟨fd, F2, F2.binds hb, He.meth_ok (c.fact j hf)⟩
theorem inx (c : He.SaysD fa fn K) {C x q : Str} {st : Stmt} {ps : List Str} (i : Nat) (hb : BindOk x q st ps) (hd : fn[i]? = some (dMet C x q st)) : ∃ fd, Fun K x q st (He.ma K (He.ga K C) x) fd ∧ Binds K fd ps [] := by
  obtain ⟨fd, F⟩ := c.def_ i hd
  have F2 : Fun K x q st (He.ma K (He.ga K C) x) fd := fun_ofD F
  exact ⟨fd, F2, F2.binds hb⟩
end
/-- the module's dict of defs -/
theorem kdct_of {K : PySem.W.Frag} {w : World} {a : Addr} {es : Array DictEntry} {n : Nat} (D : KDict K w a es n) {kvs : List (Str × He.Dv)} (h : He.valsB K a kvs = true) {x f : Str} (hq : (x, He.Dv.glo f) ∈ kvs) : KDct K w a x (.ref (He.ga K f)) := by
  obtain ⟨u, e, r⟩ := He.valsB_ok h hq
  exact ⟨es, n, u, D.at_, D.lit, e, r⟩
/-- an empty tuple of the module -/
def noneB (K : PySem.W.Frag) (a : Addr) : Bool := match K.lookup a with
  | some ⟨.type c, _, .seq its _, _⟩ => decide (c = "tuple") && its.isEmpty
  | _ => false
theorem noneB_ok {K : PySem.W.Frag} {a : Addr} (h : noneB K a = true) (H : Hp) : SqT K H a [] := by
  unfold noneB at h
  cases q : K.lookup a with
  | none => rw [q] at h; cases h
  | some o =>
    obtain ⟨oc, od, dt, osl⟩ := o
    rw [q] at h
    cases oc with
    | type c =>
      cases dt with
      | seq its n =>
        obtain ⟨h1, h2⟩ := He.ba (show (decide (c = "tuple") && its.isEmpty) = true from h)
        have e : its = #[] := Array.isEmpty_iff.mp h2
        subst e
        exact .inr ⟨_, #[], n, q, congrArg Value.type (of_decide_eq_true h1), rfl, Nat.zero_le _, .nil⟩
      | _ => cases h
    | _ => cases dt <;> cases h
/-- the keyword default x of the def, if it is an object -/
def kwdAt (f : Str × Option Str) (x : Str) (K : PySem.W.Frag) : Addr := match K.lookup (He.fAd K f) with
  | some ⟨_, _, .func fd, _⟩ => (match fd.kwdefaults with
    | .ref D => (match PySem.W.nsIn K D x with
      | some (some (.ref a)) => a
      | _ => 0)
    | _ => 0)
  | _ => 0
/-! ### the Hook: the names' reach, the interpreter's statics, one more Bool -/
def asS (g : Addr → Option Obj) (n : Nat) : List Addr := He.asD g n ++ [PySem.cStatics]
structure SaysS (fa : List He.Fa) (fn : List He.DefD) (ts : List He.Tab) (ex : PySem.W.Frag → Bool) (w : World) (K : PySem.W.Frag) : Prop where
  t : He.SaysT fa fn ts w K
  more : ex K = true
abbrev AlS : Type := He.AlT × Bool
def obsS (n : Nat) (fa : List He.Fa) (fn : List He.DefD) (ts : List He.Tab) (ex : PySem.W.Frag → Bool) (g : Addr → Option Obj) : AlS := (He.obsT fa fn ts (He.frG g (asS g n)), ex (He.frG g (asS g n)))
def valS (fn : List He.DefD) (ts : List He.Tab) (w : World) : AlS := (He.valT fn ts w, true)
def hookS (n : Nat) (fa : List He.Fa) (fn : List He.DefD) (ts : List He.Tab) (ex : PySem.W.Frag → Bool) : PySem.W.Hook where
  α := AlS
  obs := fun s => obsS n fa fn ts ex s.heap.get?
  val := fun w => valS fn ts w
  says := fun w h => ∃ K : PySem.W.Frag, K.In h ∧ SaysS fa fn ts ex w K
  of := fun _ _ e => ⟨_, He.frG_in, ⟨congrArg (fun z : AlS => z.1) e, congrArg (fun z : AlS => z.2) e⟩⟩
  keeps := fun _ _ _ ⟨K, hK, c⟩ k => ⟨K, PySem.W.Frag.In.keeps hK k, c⟩
theorem obsS_eq {n : Nat} {fa : List He.Fa} {fn : List He.DefD} {ts : List He.Tab} {ex : PySem.W.Frag → Bool} {g : Addr → Option Obj} {s : Shared} (h : ∀ a, g a = s.heap.get? a) : obsS n fa fn ts ex g = (hookS n fa fn ts ex).obs s := by
  have e : g = s.heap.get? := funext h
  rw [e] <;> rfl
/-- an own error's class over a base with its own __init__ -/
def ciB (K : PySem.W.Frag) (C fI : Addr) (bm : List Value) (newId : String) (f : Str) : Bool := PySem.W.excInitIn K C bm newId && PySem.W.excOver K C bm && ecB K C && PySem.W.findIn K (.ref C) "__init__" == some (some (.ref fI)) &&
  PySem.W.typeIn K (.ref fI) == some (.type "function") && PySem.W.findIn K (.ref C) f == some none
theorem taker_of {K : PySem.W.Frag} {C : Addr} {f : Str} (h : PySem.W.findIn K (.ref C) f = some none) : PySem.W.takerIn K C f = some none := by
  unfold PySem.W.takerIn
  rw [h]
  rfl
theorem ci_of {K : PySem.W.Frag} {C fI : Addr} {bm : List Value} {B newId initId : String} {f : Str} (BF : BaseF B newId initId bm) (h : ciB K C fI bm newId f = true) : EM K C fI ∧ ES K C f ∧ PySem.W.findIn K (.ref C) f = some none := by
  unfold ciB at h
  simp only [Bool.and_eq_true, beq_iff_eq] at h
  obtain ⟨⟨⟨⟨⟨a, b⟩, c⟩, d⟩, e⟩, g⟩ := h
  exact ⟨⟨⟨B, newId, initId, bm, BF, a⟩, (EC.of c).kp, d, e⟩, ⟨⟨B, newId, initId, bm, BF, b⟩, EC.of c, taker_of g⟩, g⟩
def creadB (K : PySem.W.Frag) (C : Addr) (mc : Value) : Bool := PySem.W.readsIn K C mc && PySem.W.specialIn K (.ref C) "__getattribute__" == some (some (.builtin "type.__getattribute__"))
theorem cread_of {K : PySem.W.Frag} {C : Addr} {mc : Value} (h : creadB K C mc = true) : CRead K C mc := by
  unfold creadB at h
  simp only [Bool.and_eq_true, beq_iff_eq] at h
  exact ⟨h.1, h.2⟩
end G

set_option Elab.async false
set_option linter.all false
set_option maxRecDepth 100000
set_option maxHeartbeats 4000000
/-! The cells of a run: what they are on paper, and where they stand. -/
namespace G
open PySem PySem.Spec PyProof.Rows L2
theorem Same.up {H : Hp} {p : Addr} {o : HO} (np : H p = none) : Same H (upd H p o) := fun b u e => by
  rw [upd_ne (ne_of_none e np)]
  exact e
/-! ### rows of pairs, as a dict keeps them -/
section
variable {κ β : Type} [DecidableEq κ]
def look (l : List (κ × β)) (k : κ) : Option β := (l.find? fun p => decide (p.1 = k)).map (·.2)
def put (l : List (κ × β)) (k : κ) (b : β) : List (κ × β) := if (l.any fun p => decide (p.1 = k)) = true then l.map (fun p => if p.1 = k then (p.1, b) else p) else l ++ [(k, b)]
def drp (l : List (κ × β)) (k : κ) : List (κ × β) := l.filter fun p => decide (p.1 ≠ k)
theorem put_length (l : List (κ × β)) (k : κ) (b : β) : (put l k b).length ≤ l.length + 1 := by
  unfold put
  split
  · rw [List.length_map]; omega
  · rw [List.length_append]; exact Nat.le_refl _
theorem drp_length (l : List (κ × β)) (k : κ) : (drp l k).length ≤ l.length := List.length_filter_le _ _
end
/-- as a dict holds it -/
def dct {κ β : Type} (km : κ → Key) (vm : β → V) (l : List (κ × β)) : List (Key × V) := l.map fun p => (km p.1, vm p.2)
section
variable {κ β : Type} [DecidableEq κ] {km : κ → Key} {vm : β → V}
theorem dct_len (l : List (κ × β)) : (dct km vm l).length = l.length := List.length_map _
theorem valV_dct (inj : ∀ x y, km x = km y → x = y) (l : List (κ × β)) (k : κ) : valV (dct km vm l) (km k) = (look l k).map vm := by
  induction l with
  | nil => rfl
  | cons p r ih =>
    by_cases h : p.1 = k
    · rw [show dct km vm (p :: r) = (km p.1, vm p.2) :: dct km vm r from rfl, valV_pos (by rw [h])]
      simp [look, List.find?_cons, h]
    · rw [show dct km vm (p :: r) = (km p.1, vm p.2) :: dct km vm r from rfl, valV_neg (fun z => h (inj _ _ z)), ih]
      simp [look, List.find?_cons, h]
theorem any_dct (inj : ∀ x y, km x = km y → x = y) (l : List (κ × β)) (k : κ) : ((dct km vm l).any fun kv => decide (kv.1 = km k)) = l.any fun p => decide (p.1 = k) := by
  induction l with
  | nil => rfl
  | cons p r ih =>
    show (decide (km p.1 = km k) || (dct km vm r).any _) = (decide (p.1 = k) || r.any _)
    rw [ih, decide_eq_decide.mpr ⟨fun z => inj _ _ z, fun z => by rw [z]⟩]
theorem putK_dct (inj : ∀ x y, km x = km y → x = y) (l : List (κ × β)) (k : κ) (b : β) : putK (dct km vm l) (km k) (vm b) = dct km vm (put l k b) := by
  unfold putK put
  rw [any_dct inj]
  split
  · unfold dct
    rw [List.map_map, List.map_map]
    refine List.map_congr_left fun p _ => ?_
    by_cases h : p.1 = k
    · simp [h]
    · have h2 : ¬ km p.1 = km k := fun z => h (inj _ _ z)
      simp [h, h2]
  · simp [dct]
theorem dropK_dct (inj : ∀ x y, km x = km y → x = y) (l : List (κ × β)) (k : κ) : dropK (dct km vm l) (km k) = dct km vm (drp l k) := by
  unfold dropK drp dct
  rw [List.filter_map]
  congr 1
  refine List.filter_congr fun p _ => ?_
  show decide (km p.1 ≠ km k) = decide (p.1 ≠ k)
  exact decide_eq_decide.mpr ⟨fun z e => z (by rw [e]), fun z e => z (inj _ _ e)⟩
end
def kS (x : Str) : Key := .inr x
def kN (n : Nat) : Key := .inl (n : Int)
theorem kS_inj : ∀ x y, kS x = kS y → x = y := fun _ _ h => Sum.inr.inj h
theorem kN_inj : ∀ x y, kN x = kN y → x = y := fun _ _ h => Int.ofNat.inj (Sum.inl.inj h)
def optV : Option Nat → V
  | none => .non
  | some n => .int n
/-! ### what changes -/
/-- only what stands at one of S changed, and no tuple; nothing is gone -/
structure Ch (S : List Addr) (H H' : Hp) : Prop where
  kp : Kp S H H'
  tu : ∀ b xs, H b = some (.tup xs) → H' b = some (.tup xs)
  al : ∀ b o, H b = some o → ∃ u, H' b = some u
theorem Ch.refl (S : List Addr) (H : Hp) : Ch S H H := ⟨Kp.refl S H, fun _ _ h => h, fun _ o h => ⟨o, h⟩⟩
theorem Ch.trans {S : List Addr} {H H1 H2 : Hp} (a : Ch S H H1) (b : Ch S H1 H2) : Ch S H H2 := ⟨a.kp.trans b.kp, fun c xs h => b.tu c xs (a.tu c xs h), fun c o h => let ⟨u, e⟩ := a.al c o h; b.al c u e⟩
theorem Ch.mono {S T : List Addr} {H H' : Hp} (a : Ch S H H') (h : ∀ b, b ∈ S → b ∈ T) : Ch T H H' := ⟨a.kp.mono h, a.tu, a.al⟩
theorem Ch.same {S : List Addr} {H H' : Hp} (s : Same H H') : Ch S H H' := ⟨Kp.same s, fun b xs h => s b _ h, fun b o h => ⟨o, s b o h⟩⟩
theorem Ch.new {S : List Addr} {p : Addr} {H H' : Hp} {o : HO} (a : Ch S H H') (h : H' p = none) : Ch S H (upd H' p o) := a.trans (Ch.same (Same.up h))
theorem Ch.put {S : List Addr} {p : Addr} {H H' : Hp} {o u : HO} (a : Ch S H H') (h : p ∈ S) (hp : H' p = some u) (nt : ∀ xs, u ≠ .tup xs) : Ch S H (upd H' p o) :=
  ⟨a.kp.put h, fun b xs e => by
    have z := a.tu b xs e
    have ne : b ≠ p := fun q => by
      rw [q, hp] at z
      exact nt xs (Option.some.inj z)
    rw [upd_ne ne]
    exact z, fun b o' e => by
    by_cases hb : b = p
    · rw [hb]
      exact ⟨_, upd_same⟩
    · obtain ⟨v, z⟩ := a.al b o' e
      exact ⟨v, by rw [upd_ne hb]; exact z⟩⟩
theorem Ch.free {S : List Addr} {H H' : Hp} {b : Addr} (a : Ch S H H') (h : H' b = none) : H b = none := by
  cases e : H b with
  | none => rfl
  | some o =>
    obtain ⟨u, z⟩ := a.al b o e
    rw [h] at z
    cases z
/-- what was not there at first need not be named -/
theorem Ch.less {S : List Addr} {p : Addr} {H H' : Hp} (a : Ch (p :: S) H H') (h : H p = none) : Ch S H H' := ⟨a.kp.fresh h, a.tu, a.al⟩
theorem Ch.lessS {S T : List Addr} {H H' : Hp} (a : Ch T H H') (h : ∀ b ∈ T, b ∈ S ∨ H b = none) : Ch S H H' :=
  ⟨fun b o n e => a.kp b o (fun z => (h b z).elim n fun q => by rw [q] at e; cases e) e, a.tu, a.al⟩
/-! ### the cells -/
structure PC where
  S : List (Str × Option Nat)
  F : List (List (Str × Nat × Bool))
  W : List (Nat × Str)
  ke : List Nat
  cl : List (Nat × Int)
structure CAd where
  C : Addr
  dC : Addr
  st : Addr
  fi : Addr
  wi : Addr
  ke : Addr
  cl : Addr
  fl : List Addr
def CAd.foot (a : CAd) : List Addr := [a.st, a.fi, a.wi, a.ke, a.cl] ++ a.fl
/-- a field's dict -/
def FdR (H : Hp) : List (Str × Nat × Bool) → List (Key × V) → Prop := Paired fun x y => y.1 = kS x.1 ∧ ∃ t, y.2 = .ref t ∧ H t = some (.tup [.int x.2.1, .bl x.2.2])
def FdAt (H : Hp) (q : Addr) (l : List (Str × Nat × Bool)) : Prop := ∃ kvs, H q = some (.dK kvs) ∧ FdR H l kvs
structure Sz (p : PC) (B : Nat) : Prop where
  S : p.S.length ≤ B
  F : p.F.length ≤ B
  f : ∀ l ∈ p.F, l.length ≤ B
  W : p.W.length ≤ B
  k : p.ke.length ≤ B
  c : p.cl.length ≤ B
  t : (p.F.map List.length).sum ≤ B
theorem Sz.mono {p : PC} {B B' : Nat} (h : Sz p B) (hb : B ≤ B') : Sz p B' :=
  ⟨Nat.le_trans h.S hb, Nat.le_trans h.F hb, fun l hl => Nat.le_trans (h.f l hl) hb, Nat.le_trans h.W hb, Nat.le_trans h.k hb, Nat.le_trans h.c hb, Nat.le_trans h.t hb⟩
structure Cel (CC : Addr) (H : Hp) (a : CAd) (p : PC) (B : Nat) : Prop where
  hC : H a.C = some (.ins CC a.dC [("stands", .ref a.st), ("fields", .ref a.fi), ("wishes", .ref a.wi), ("kept", .ref a.ke), ("cleared", .ref a.cl)])
  hst : H a.st = some (.dK (dct kS optV p.S))
  hfi : H a.fi = some (.lst (a.fl.map V.ref))
  hwi : H a.wi = some (.dK (dct kN V.str p.W))
  hke : H a.ke = some (.dK (dct kN (fun _ => V.bl true) (p.ke.map fun c => (c, ()))))
  hcl : H a.cl = some (.dK (dct kN V.int p.cl))
  hfl : Paired (FdAt H) a.fl p.F
  nd : a.foot.Nodup
  nC : a.C ∉ a.foot
  sz : Sz p B
theorem FdR.ch {S : List Addr} {H H' : Hp} {l : List (Str × Nat × Bool)} {kvs : List (Key × V)} (h : FdR H l kvs) (c : Ch S H H') : FdR H' l kvs := by
  induction h with
  | nil => exact .nil
  | cons h1 h2 ih =>
    obtain ⟨e, t, et, ht⟩ := h1
    exact .cons ⟨e, t, et, c.tu _ _ ht⟩ ih
theorem FdAt.ch {S : List Addr} {H H' : Hp} {q : Addr} {l : List (Str × Nat × Bool)} (h : FdAt H q l) (c : Ch S H H') (n : q ∉ S) : FdAt H' q l := by
  obtain ⟨kvs, hq, hr⟩ := h
  exact ⟨kvs, c.kp _ _ n hq, hr.ch c⟩
theorem flds_ch {S : List Addr} {H H' : Hp} (c : Ch S H H') : ∀ {fl : List Addr} {F : List (List (Str × Nat × Bool))}, Paired (FdAt H) fl F → (∀ q ∈ fl, q ∉ S) → Paired (FdAt H') fl F
  | _, _, .nil, _ => .nil
  | _, _, .cons h t, n => .cons (h.ch c (n _ (List.mem_cons_self ..))) (flds_ch c t fun q hq => n q (List.mem_cons_of_mem _ hq))
theorem Cel.ch {CC : Addr} {S : List Addr} {H H' : Hp} {a : CAd} {p : PC} {B : Nat} (h : Cel CC H a p B) (c : Ch S H H') (n : ∀ b ∈ S, b ∉ a.foot ∧ b ≠ a.C) : Cel CC H' a p B := by
  have nf : ∀ b ∈ a.foot, b ∉ S := fun b hb hs => (n b hs).1 hb
  have m : ∀ x ∈ [a.st, a.fi, a.wi, a.ke, a.cl], x ∉ S := fun x hx => nf x (List.mem_append_left _ hx)
  exact ⟨c.kp _ _ (fun z => (n _ z).2 rfl) h.hC, c.kp _ _ (m _ (by simp)) h.hst, c.kp _ _ (m _ (by simp)) h.hfi, c.kp _ _ (m _ (by simp)) h.hwi, c.kp _ _ (m _ (by simp)) h.hke, c.kp _ _ (m _ (by simp)) h.hcl,
    flds_ch c h.hfl fun q hq => nf q (List.mem_append_right _ hq), h.nd, h.nC, h.sz⟩
/-- no tuple stands at an address of the cells -/
theorem Cel.foot_nt {CC : Addr} {H : Hp} {a : CAd} {p : PC} {B : Nat} (h : Cel CC H a p B) : ∀ b ∈ a.foot, ∃ u, H b = some u ∧ ∀ xs, u ≠ .tup xs := by
  intro b hb
  have key : ∀ {fl : List Addr} {F : List (List (Str × Nat × Bool))}, Paired (FdAt H) fl F → b ∈ fl → ∃ kvs, H b = some (.dK kvs) := by
    intro fl F hp
    induction hp with
    | nil => intro z; cases z
    | cons h1 h2 ih =>
      intro z
      rcases List.mem_cons.mp z with z | z
      · obtain ⟨kvs, hq, _⟩ := h1
        exact ⟨kvs, by rw [z]; exact hq⟩
      · exact ih z
  rcases List.mem_append.mp hb with hb | hb
  · simp only [List.mem_cons, List.not_mem_nil, or_false] at hb
    rcases hb with rfl | rfl | rfl | rfl | rfl
    · exact ⟨_, h.hst, fun xs z => by cases z⟩
    · exact ⟨_, h.hfi, fun xs z => by cases z⟩
    · exact ⟨_, h.hwi, fun xs z => by cases z⟩
    · exact ⟨_, h.hke, fun xs z => by cases z⟩
    · exact ⟨_, h.hcl, fun xs z => by cases z⟩
  · obtain ⟨kvs, hq⟩ := key h.hfl hb
    exact ⟨_, hq, fun xs z => by cases z⟩
end G

set_option linter.all false
namespace G
open PySem PySem.Spec PyProof.Rows L2
def top (i : Nat) : Stmt := PySem.Challenge.pw_maybegone_k06_texts_of_programs.main.body.getD i (.Pass ⟨0, 0, 0, 0⟩)
end G

set_option Elab.async false
set_option linter.all false
set_option maxRecDepth 100000
set_option maxHeartbeats 4000000
namespace G
open PySem PySem.Spec PyProof.Rows L2
/-! ### the deck's def -/
abbrev s__law_deck : Stmt := top 8
abbrev n__law_deck : List Str := ["_law_script", "_law_cell"]
theorem sc__law_deck : FnScope n__law_deck ["_law_script"] (defScope s__law_deck) := ⟨rfl, rfl, rfl, by decide +kernel, rfl, by decide +kernel, by decide +kernel⟩
def spDeck (K : PySem.W.Frag) : Sp := fun vs H Q _ => ∃ (a : Addr) (ns : List Int), vs = [.ref a] ∧ SqL K H a (ns.map V.int) ∧ ns.length ≤ 63 ∧ ∀ H' D L, Same H H' → Deck H' D L 0 → H D = none → H L = none → Q (.ref D) H'
section
variable {P : Program} {w : World} {K : PySem.W.Frag} {mg : Str → Option Value} {base : Heap}
theorem ok_deck {f : Addr} {fd : FuncData} {k : Nat} (F : Fun K "_law_deck" "_law_deck" s__law_deck f fd) (T : Bi mg) : FnOk P w K mg base CX0 (k + 1) f fd ["_law_script"] (spDeck K) := by
  refine F.ok sc__law_deck (fun vs H Q E h => ?_) (fun cdv A outer s H vs Q E hr h => ?_)
  · obtain ⟨a, ns, rfl, _⟩ := h
    rfl
  obtain ⟨a, ns, rfl, hS, hlen, q⟩ := h
  refine ⟨_, (pss_one (ps_ret (pe_lst (pa_cons (pe_lc (own := [("_law_cell", 1)]) (by rfl) sc__law_deck.nd (pi_list (pe_slice sl_list (pv 0) po_none (po_some pe_int))) (blkOk_by (N := n__law_deck) (sc := defScope s__law_deck) (by decide +kernel)) (fun _ _ _ _ _ => (pg_name (i := 1) sc__law_deck.nd rfl (.inl rfl))) (fun _ _ _ _ _ => pts_nil) (fun _ _ _ _ _ => (pe_callB call_abs (by rfl) T.z_abs (by decide +kernel) (pa_cons (pv 1) pa_nil)))) (pa_cons pe_int pa_nil))))), ?_⟩
  refine ⟨_, rfl, _, rfl, a, ns.map V.int, rfl, hS, fun c nc => ?_⟩
  refine ⟨c, rfl, ⟨_, SqL.of upd_same⟩, fun L nL => ?_⟩
  have ec : cutV (ns.map V.int) none (some 63) = ns.map V.int := cut_all (by rw [List.length_map]; exact hlen)
  rw [ec] at nL ⊢
  have sc : Same H (upd H c (.lst (ns.map V.int))) := (Kp.new (Kp.refl [] H) nc).toSame
  have ncL : c ≠ L := fun e => by rw [← e, upd_same] at nL; cases nL
  refine lc_list (K := K) (a := c) (xs := ns.map V.int) (fun i H' => Kp [L] (upd H c (.lst (ns.map V.int))) H' ∧ H' L = some (.lst (((ns.map iabs).take i).map V.int)))
    ⟨(Kp.refl _ _).new nL, upd_same⟩ (fun i H' _ h => SqL.of (h.1 c _ (by simpa using ncL) upd_same)) ?_ ?_
  · rintro i x H' hi ⟨sm, hL⟩
    obtain ⟨u, eu, rfl⟩ : ∃ u, ns[i]? = some u ∧ V.int u = x := by simpa using hi
    refine ⟨rfl, .int u, rfl, u, rfl, _, hL, ?_, sm.put (by simp), ?_⟩
    · rw [List.length_map, List.length_take]
      exact small1000 (by rw [List.length_map]; omega)
    · rw [upd_same, take_step (x := iabs u) (by simp [eu]), List.map_append]
      rfl
  · rintro H' ⟨sm, hL⟩
    have sm1 : Same (upd H c (.lst (ns.map V.int))) H' := (sm.fresh nL).toSame
    refine ⟨by show 2 ≤ sizeLine; exact line1000 (by decide), fun D nD => ?_⟩
    rw [List.length_map, List.take_of_length_le (by rw [List.length_map]; exact Nat.le_refl _)] at hL
    have neDL : D ≠ L := (ne_of_none hL nD).symm
    have s2 : Same H (upd H' D (.lst [.ref L, .int 0])) := (Kp.new (S := []) (Kp.same (sc.trans sm1)) nD).toSame
    refine q _ D L s2 ⟨neDL, 0, ns.map iabs, upd_same, by rw [upd_ne neDL.symm]; exact hL, Int.le_refl _, Int.le_refl _, by rw [List.length_map]; exact hlen, fun x hx => ?_⟩ ?_ (sc.free nL)
    · obtain ⟨y, _, rfl⟩ := List.mem_map.mp hx
      exact iabs_nonneg y
    · exact (sc.trans sm1).free nD

/-! ### a draw -/
abbrev s__law_draw : Stmt := top 9
abbrev n__law_draw : List Str := ["_law_deck_here", "_law_many", "_law_cell", "_law_at", "_law_mixed"]
theorem sc__law_draw : FnScope n__law_draw ["_law_deck_here", "_law_many"] (defScope s__law_draw) := ⟨rfl, rfl, rfl, by decide +kernel, rfl, by decide +kernel, by decide +kernel⟩
def spDraw : Sp := fun vs H Q _ => ∃ (D L : Addr) (n : Nat) (many : Int), vs = [.ref D, .int many] ∧ Deck H D L n ∧ n < 10 ^ 12 ∧ 1 ≤ many ∧ many < 1073741824 ∧
  ∀ H' r, Kp [D, L] H H' → Deck H' D L (n + 1) → 0 ≤ r → r < many → Q (.int r) H'
theorem ok_draw {f : Addr} {fd : FuncData} {k : Nat} (F : Fun K "_law_draw" "_law_draw" s__law_draw f fd) (T : Bi mg) : FnOk P w K mg base CX0 (k + 1) f fd ["_law_deck_here", "_law_many"] spDraw := by
  refine F.ok sc__law_draw (fun vs H Q E h => ?_) (fun cdv A outer s H vs Q E hr h => ?_)
  · obtain ⟨D, L, n, many, rfl, _⟩ := h
    rfl
  obtain ⟨D, L, n, many, rfl, hD, hn, hm1, hm2, q⟩ := h
  refine ⟨_, (pss_cons (ps_asg (pe_op op_add (pe_ix ix_list (pv 0) pe_int (fun _ _ => rfl)) pe_int) (pg_sub (pv 0) pe_int set_list))
      (pss_cons (ps_asg (pe_tup (pa_cons pe_int (pa_cons (pe_un un_neg pe_int) pa_nil))) (pg_tup rfl (pgs_cons (pg_name (i := 2) sc__law_draw.nd rfl (.inl rfl)) (pgs_cons (pg_name (i := 3) sc__law_draw.nd rfl (.inl rfl)) pgs_nil))))
      (pss_cons (ps_if (pt_cmpR op_gt (pe_callB call_len_seq (by rfl) T.z_len (by decide +kernel) (pa_cons (pe_ix ix_list (pv 0) pe_int (fun _ _ => rfl)) pa_nil)) pe_int (nomark _))
      (pss_cons (ps_set (i := 3) sc__law_draw.nd rfl (.inl rfl) (pe_op op_modN (pe_callTy call_int1 (by rfl) T.z_int (by decide +kernel) (pa_cons (pe_ix ix_list (pv 0) pe_int (fun _ _ => rfl)) pa_nil)) (pe_callB call_len_seq (by rfl) T.z_len (by decide +kernel) (pa_cons (pe_ix ix_list (pv 0) pe_int (fun _ _ => rfl)) pa_nil))))
      (pss_one (ps_set (i := 2) sc__law_draw.nd rfl (.inl rfl) (pe_ix ix_list (pe_ix ix_list (pv 0) pe_int (fun _ _ => rfl)) (pv 3) (fun _ _ => rfl)))))
      pss_nil)
      (pss_cons (ps_if (pt_cmpR op_ge (pv 2) (pe_op op_pow pe_int pe_int) (nomark _))
      (pss_cons (ps_asg (pe_op op_fdivN (pe_callTy call_int1 (by rfl) T.z_int (by decide +kernel) (pa_cons (pv 2) pa_nil)) (pv 1)) (pg_sub (pe_ix ix_list (pv 0) pe_int (fun _ _ => rfl)) (pv 3) set_list))
      (pss_one (ps_ret (pe_op op_modN (pe_callTy call_int1 (by rfl) T.z_int (by decide +kernel) (pa_cons (pv 2) pa_nil)) (pv 1)))))
      pss_nil)
      (pss_cons (ps_set (i := 4) sc__law_draw.nd rfl (.inl rfl) (pe_op op_add (pe_op op_add (pe_op op_modN (pe_callTy call_int1 (by rfl) T.z_int (by decide +kernel) (pa_cons (pv 2) pa_nil)) pe_int) (pe_op op_mul pe_int (pe_ix ix_list (pv 0) pe_int (fun _ _ => rfl)))) pe_int))
      (pss_one (ps_ret (pe_op op_modN (pe_callTy call_int1 (by rfl) T.z_int (by decide +kernel) (pa_cons (pe_op op_modN (pe_callTy call_int1 (by rfl) T.z_int (by decide +kernel) (pa_cons (pe_op op_pow (pv 4) pe_int) pa_nil)) pe_int) pa_nil)) (pv 1))))))))), ?_⟩
  obtain ⟨ne, m, ns, h1, h2, h3, h4, h5, h6⟩ := hD
  have a1 : ∀ (l : Addr) (x : V), atI [V.ref l, x] 1 = some x := fun l x => atI_nat (j := 1) rfl
  have a0 : ∀ (l : Addr) (x : V), atI [V.ref l, x] 0 = some (V.ref l) := fun l x => atI_nat (j := 0) rfl
  -- deck[1] = deck[1] + 1
  refine ⟨.ref D, rfl, D, _, 1, _, rfl, rfl, SqL.of h1, a1 _ _, m, 1, rfl, rfl, ?_⟩
  refine ⟨.ref D, rfl, D, _, 1, 1, rfl, rfl, h1, rfl, ?_⟩
  have e1 : ([V.ref L, V.int m].set 1 (V.int (m + 1))) = [V.ref L, V.int (m + 1)] := rfl
  rw [e1]
  obtain ⟨H1, hH1⟩ : ∃ H1, H1 = upd H D (.lst [V.ref L, V.int (m + 1)]) := ⟨_, rfl⟩
  rw [← hH1]
  have k1 : Kp [D, L] H H1 := by rw [hH1]; exact (Kp.refl _ _).put (by simp)
  have g1 : H1 D = some (.lst [V.ref L, V.int (m + 1)]) := by rw [hH1, upd_same]
  have g2 : H1 L = some (.lst (ns.map V.int)) := by rw [hH1, upd_ne ne.symm]; exact h2
  -- _law_cell, _law_at = (0, -1)
  refine ⟨1, rfl, by show 2 ≤ sizeLine; exact line1000 (by decide), fun p np => ?_⟩
  refine ⟨p, _, rfl, SqT.of upd_same, rfl, _, _, rfl, _, _, rfl, rfl, ?_⟩
  have npD : D ≠ p := ne_of_none g1 np
  have npL : L ≠ p := ne_of_none g2 np
  obtain ⟨H2, hH2⟩ : ∃ H2, H2 = upd H1 p (.tup [V.int 0, V.int (-1)]) := ⟨_, rfl⟩
  rw [← hH2]
  have k2 : Kp [D, L] H H2 := by rw [hH2]; exact k1.new np
  have f1 : H2 D = some (.lst [V.ref L, V.int (m + 1)]) := by rw [hH2, upd_ne npD]; exact g1
  have f2 : H2 L = some (.lst (ns.map V.int)) := by rw [hH2, upd_ne npL]; exact g2
  -- if len(deck[0]) > 0
  refine ⟨.ref D, rfl, D, _, 0, _, rfl, rfl, SqL.of f1, a0 _ _, L, _, rfl, .inl (SqL.of f2), _, _, rfl, rfl, _, rfl, ite2 (fun c => ?w1) (fun c => ?w2)⟩
  case' w1 =>
    have hpos : (0 : Int) < ((ns.map V.int).length : Int) := of_decide_eq_true c
    have hlen : (ns.map V.int).length = ns.length := List.length_map _
    refine ⟨.ref D, rfl, D, _, 1, _, rfl, rfl, SqL.of f1, a1 _ _, .inl ⟨_, rfl, .ref D, rfl, D, _, 0, _, rfl, rfl, SqL.of f1, a0 _ _, L, _, rfl, .inl (SqL.of f2), m + 1, _, rfl, rfl, by omega, ?_⟩⟩
    obtain ⟨at_, eat⟩ : ∃ at_, at_ = (m + 1).fmod ((ns.map V.int).length : Int) := ⟨_, rfl⟩
    dsimp only
    rw [← eat]
    rw [Int.fmod_eq_emod_of_nonneg _ (by omega)] at eat
    have b0 : 0 ≤ at_ := by rw [eat]; exact Int.emod_nonneg _ (by omega)
    have b1 : at_ < (ns.length : Int) := by rw [eat, hlen]; exact Int.emod_lt_of_pos _ (by omega)
    have b2 : at_.toNat < ns.length := by omega
    have hat : atI (ns.map V.int) at_ = some (.int ns[at_.toNat]) := by
      have z := atI_nat (xs := ns.map V.int) (j := at_.toNat) (v := .int ns[at_.toNat]) (by simp)
      rwa [show ((at_.toNat : Nat) : Int) = at_ by omega] at z
    refine ⟨.ref D, rfl, D, _, 0, _, rfl, rfl, SqL.of f1, a0 _ _, .int at_, rfl, L, _, at_, _, rfl, rfl, SqL.of f2, hat, ?_⟩
    have hc0 : 0 ≤ ns[at_.toNat] := h6 _ (List.getElem_mem b2)
    have hcat : 10 ^ 18 ≤ ns[at_.toNat] → 0 ≤ at_ ∧ at_.toNat < ns.length := fun _ => ⟨b0, b2⟩
    obtain ⟨cell, ecell⟩ : ∃ cell, cell = ns[at_.toNat] := ⟨_, rfl⟩
    rw [← ecell] at hc0 hcat ⊢
    clear c
  case' w2 =>
    obtain ⟨cell, ecell⟩ : ∃ cell : Int, cell = 0 := ⟨_, rfl⟩
    obtain ⟨at_, eat⟩ : ∃ at_ : Int, at_ = -1 := ⟨_, rfl⟩
    have hc0 : 0 ≤ cell := by omega
    have hcat : 10 ^ 18 ≤ cell → 0 ≤ at_ ∧ at_.toNat < ns.length := fun z => by omega
    clear c
    show tSeq _ _ _ [some (.ref D), some (.int many), some (.int 0), some (.int (-1)), none] H2
    rw [show (some (V.int 0) : Option V) = some (V.int cell) by rw [ecell], show (some (V.int (-1)) : Option V) = some (V.int at_) by rw [eat]]
  all_goals
    refine ⟨_, rfl, ⟨10, 18, rfl, rfl, ⟨by omega, by omega, by decide⟩, ?_⟩⟩
    refine ⟨_, _, rfl, rfl, _, rfl, ite2 (fun c => ?_) (fun c => ?_)⟩
    · have c18 : (10 : Int) ^ 18 ≤ cell := of_decide_eq_true c
      obtain ⟨b0, b2⟩ := hcat c18
      refine ⟨_, rfl, .inl ⟨cell, rfl, .int many, rfl, cell, many, rfl, rfl, ⟨by omega, by omega⟩, ?_⟩⟩
      refine ⟨.ref D, rfl, D, _, 0, _, rfl, rfl, SqL.of f1, a0 _ _, .int at_, rfl, L, _, at_, at_.toNat, rfl, rfl, f2, ?_, ?_⟩
      · unfold ixN
        rw [if_pos b0, if_pos (by rw [List.length_map]; omega)]
      · refine ⟨_, rfl, .inl ⟨cell, rfl, .int many, rfl, cell, many, rfl, rfl, by omega, ?_⟩⟩
        dsimp only
        rw [Int.fmod_eq_emod_of_nonneg _ (by omega), Int.fdiv_eq_ediv_of_nonneg _ (by omega)]
        refine q _ _ (k2.put (by simp)) ⟨ne, m + 1, ns.set at_.toNat (cell / many), by rw [upd_ne ne]; exact f1, by rw [upd_same, List.map_set], by omega, by omega, by rw [List.length_set]; exact h5, fun x hx => ?_⟩ (Int.emod_nonneg _ (by omega)) (Int.emod_lt_of_pos _ (by omega))
        rcases List.mem_or_eq_of_mem_set hx with hx | hx
        · exact h6 x hx
        · rw [hx]
          exact Int.ediv_nonneg hc0 (by omega)
    · refine ⟨_, rfl, .inl ⟨cell, rfl, cell, 2147483563, rfl, rfl, by omega, .ref D, rfl, D, _, 1, _, rfl, rfl, SqL.of f1, a1 _ _, 8117, m + 1, rfl, rfl, .inl ⟨by omega, by omega⟩, _, _, rfl, rfl, _, 3, rfl, rfl, ?_⟩⟩
      have t1 : cell.fmod 2147483563 = cell % 2147483563 := Int.fmod_eq_emod_of_nonneg _ (by omega)
      have z1 : 0 ≤ cell % 2147483563 := Int.emod_nonneg _ (by omega)
      have z2 : cell % 2147483563 < 2147483563 := Int.emod_lt_of_pos _ (by omega)
      dsimp only
      rw [t1]
      obtain ⟨mx, emx⟩ : ∃ mx, mx = cell % 2147483563 + 8117 * (m + 1) + 3 := ⟨_, rfl⟩
      rw [← emx]
      refine ⟨.int mx, rfl, mx, 5, rfl, rfl, ⟨by omega, by omega, by omega⟩, ?_⟩
      refine .inl ⟨_, rfl, _, 2147483629, rfl, rfl, by omega, .inl ⟨_, rfl, .int many, rfl, _, many, rfl, rfl, by omega, ?_⟩⟩
      dsimp only
      rw [Int.fmod_eq_emod_of_nonneg _ (by omega : (0 : Int) ≤ many)]
      exact q _ _ k2 ⟨ne, m + 1, ns, f1, f2, by omega, by omega, h5, h6⟩ (Int.emod_nonneg _ (by omega)) (Int.emod_lt_of_pos _ (by omega))
end
end G

set_option Elab.async false
set_option linter.all false
set_option maxRecDepth 100000
set_option maxHeartbeats 4000000
namespace G
open PySem PySem.Spec PyProof.Rows L2
abbrev s__law_one : Stmt := top 10
abbrev n__law_one : List Str := ["_law_deck_here", "_law_items"]
theorem sc__law_one : FnScope n__law_one ["_law_deck_here", "_law_items"] (defScope s__law_one) := ⟨rfl, rfl, rfl, by decide +kernel, rfl, by decide +kernel, by decide +kernel⟩
/-- one of the items of a list (that is no part of the deck), of a tuple, or one sign of a text -/
def spOne (K : PySem.W.Frag) : Sp := fun vs H Q _ => ∃ (D L : Addr) (n : Nat) (v : V), vs = [.ref D, v] ∧ Deck H D L n ∧ n < 10 ^ 12 ∧
  ((∃ (a : Addr) (xs : List V), v = .ref a ∧ ((SqL K H a xs ∧ a ∉ [D, L]) ∨ (SqT K H a xs ∧ a ∉ [D, L])) ∧ 0 < xs.length ∧ xs.length ≤ 1000 ∧ ∀ H' y, Kp [D, L] H H' → Deck H' D L (n + 1) → y ∈ xs → Q y H') ∨
   (∃ z : Str, v = .str z ∧ 0 < z.length ∧ z.length ≤ 1000 ∧ ∀ H' c, Kp [D, L] H H' → Deck H' D L (n + 1) → c ∈ z.cps.toList → Q (.str ⟨#[c]⟩) H'))
theorem Kp.seqT {K : PySem.W.Frag} {S : List Addr} {a : Addr} {H H' : Hp} {xs : List V} (k : Kp S H H') (d : a ∉ S) (h : SqT K H a xs) : SqT K H' a xs := by
  rcases h with (h | ⟨o, h⟩) | h
  · exact .inl (.inl (k _ _ d h))
  · exact .inl (.inr ⟨o, k _ _ d h⟩)
  · exact .inr h
theorem atI_in {α : Type} {xs : List α} {r : Int} (h0 : 0 ≤ r) (h1 : r < (xs.length : Int)) : ∃ y, atI xs r = some y ∧ y ∈ xs := by
  have b : r.toNat < xs.length := by omega
  refine ⟨xs[r.toNat], ?_, List.getElem_mem b⟩
  have z := atI_nat (xs := xs) (j := r.toNat) (v := xs[r.toNat]) (List.getElem?_eq_getElem b)
  rwa [show ((r.toNat : Nat) : Int) = r by omega] at z
section
variable {P : Program} {w : World} {K : PySem.W.Frag} {mg : Str → Option Value} {base : Heap}
theorem ok_one {f f1 : Addr} {fd fd1 : FuncData} {k : Nat} (F : Fun K "_law_one" "_law_one" s__law_one f fd) (T : Bi mg) (G1 : FnOk P w K mg base CX0 k f1 fd1 ["_law_deck_here", "_law_many"] spDraw) (k1 : PySem.W.keepIn K (.ref f1) = true)
    (b1 : Binds K fd1 ["_law_deck_here", "_law_many"] []) (m1 : mg "_law_draw" = some (.ref f1)) : FnOk P w K mg base CX0 (k + 1) f fd ["_law_deck_here", "_law_items"] (spOne K) := by
  refine F.ok sc__law_one (fun vs H Q E h => ?_) (fun cdv A outer s H vs Q E hr h => ?_)
  · obtain ⟨D, L, n, v, rfl, _⟩ := h
    rfl
  obtain ⟨D, L, n, v, rfl, hD, hn, h⟩ := h
  refine ⟨_, (pss_one (ps_ret (pe_ix ix_seq (pv 1) (pe_call G1 hr (by rfl) m1 k1 b1 .nil pass0 (pa_cons (pv 0) (pa_cons (pe_callB call_len (by rfl) T.z_len (by decide +kernel) (pa_cons (pv 1) pa_nil)) pa_nil))) (fun _ _ => rfl)))), ?_⟩
  rcases h with ⟨a, xs, rfl, h, h0, hz, q⟩ | ⟨z, rfl, h0, hz, q⟩
  · refine ⟨.ref a, rfl, .ref D, rfl, .ref a, rfl, .ref a, xs.length, rfl, ?_, D, L, n, _, rfl, hD, hn, by omega, by omega, fun H' r kp hD' r0 r1 => ?_⟩
    · rcases h with h | h
      · exact .inl ⟨xs, h.1, rfl⟩
      · exact .inr ⟨xs, h.1, rfl⟩
    · obtain ⟨y, ey, hy⟩ := atI_in r0 r1
      rcases h with h | h
      · exact .inl ⟨a, xs, r, y, rfl, rfl, kp.seq h.2 h.1, ey, q H' y kp hD' hy⟩
      · exact .inr (.inl ⟨a, xs, r, y, rfl, rfl, kp.seqT h.2 h.1, ey, q H' y kp hD' hy⟩)
  · refine ⟨.str z, rfl, .ref D, rfl, .str z, rfl, .str z, z.length, rfl, ⟨line1000 hz, rfl⟩, D, L, n, _, rfl, hD, hn, by omega, by omega, fun H' r kp hD' r0 r1 => ?_⟩
    obtain ⟨c, ec, hc⟩ := atI_in (xs := z.cps.toList) r0 (by rw [Array.length_toList]; exact r1)
    exact .inr (.inr ⟨z, r, c, rfl, rfl, line1000 hz, ec, q H' c kp hD' hc⟩)
end
end G

set_option Elab.async false
set_option linter.all false
set_option maxRecDepth 100000
set_option maxHeartbeats 4000000
/-! Programs as data, drawn: names, tests, statements. -/
namespace G
open PySem PySem.Spec PyProof.Rows L2
structure Df (K : PySem.W.Frag) (mg : Str → Option Value) (x : Str) (st : Stmt) (ps : List Str) (f : Addr) (fd : FuncData) : Prop where
  F : Fun K x x st f fd
  b : Binds K fd ps []
  m : mg x = some (.ref f)
mutual
inductive TD (H : Hp) : V → PyData → Prop
  | non : TD H .non .none
  | bl (b : Bool) : TD H (.bl b) (.bool b)
  | int (i : Int) : TD H (.int i) (.int i)
  | str (x : Str) : TD H (.str x) (.str x)
  | tup {a : Addr} {xs : List V} {ds : List PyData} : H a = some (.tup xs) → TDs H xs ds → TD H (.ref a) (.tuple ds)
inductive TDs (H : Hp) : List V → List PyData → Prop
  | nil : TDs H [] []
  | cons {v : V} {vs : List V} {d : PyData} {ds : List PyData} : TD H v d → TDs H vs ds → TDs H (v :: vs) (d :: ds)
end
mutual
theorem TD.ch {S : List Addr} {H H' : Hp} (c : Ch S H H') : ∀ (d : PyData) (v : V), TD H v d → TD H' v d
  | .none, _, h => by cases h; exact .non
  | .bool b, _, h => by cases h; exact .bl b
  | .int i, _, h => by cases h; exact .int i
  | .str x, _, h => by cases h; exact .str x
  | .list ds, _, h => nomatch h
  | .tuple ds, _, h => by
    cases h with
    | tup h1 h2 => exact .tup (c.tu _ _ h1) (TDs.ch c ds _ h2)
  | .dict _, _, h => nomatch h
theorem TDs.ch {S : List Addr} {H H' : Hp} (c : Ch S H H') : ∀ (ds : List PyData) (vs : List V), TDs H vs ds → TDs H' vs ds
  | [], _, h => by cases h; exact .nil
  | d :: ds, _, h => by
    cases h with
    | cons h1 h2 => exact .cons (TD.ch c d _ h1) (TDs.ch c ds _ h2)
end
theorem TDs.snoc {H : Hp} : ∀ {vs : List V} {ds : List PyData} {v : V} {d : PyData}, TDs H vs ds → TD H v d → TDs H (vs ++ [v]) (ds ++ [d])
  | _, _, _, _, .nil, h => .cons h .nil
  | _, _, _, _, .cons h1 h2, h => .cons h1 (h2.snoc h)
theorem TDs.append {H : Hp} : ∀ {a : List V} {da : List PyData} {b : List V} {db : List PyData}, TDs H a da → TDs H b db → TDs H (a ++ b) (da ++ db)
  | _, _, _, _, .nil, h => h
  | _, _, _, _, .cons h1 h2, h => .cons h1 (h2.append h)
theorem TDs.len {H : Hp} : ∀ {vs : List V} {ds : List PyData}, TDs H vs ds → vs.length = ds.length
  | _, _, .nil => rfl
  | _, _, .cons _ t => by rw [List.length_cons, List.length_cons, t.len]
theorem TDs.mem {H : Hp} : ∀ {vs : List V} {ds : List PyData}, TDs H vs ds → ∀ v ∈ vs, ∃ d ∈ ds, TD H v d
  | _, _, .nil, v, h => nomatch h
  | _, _, .cons h1 h2, v, h => by
    rcases List.mem_cons.mp h with rfl | h
    · exact ⟨_, List.mem_cons_self .., h1⟩
    · obtain ⟨d, hd, t⟩ := h2.mem v h
      exact ⟨d, List.mem_cons_of_mem _ hd, t⟩
/-! ### on paper -/
inductive Tst
  | given (i : Nat)
  | set (x : Str)
  | same (x y : Str)
  | full (x f : Str)
  | wished (w : Str)
  | not (t : Tst)
def Tst.depth : Tst → Nat
  | .not t => t.depth + 1
  | _ => 0
def Tst.data : Tst → PyData
  | .given i => .tuple [.str "given", .int i]
  | .set x => .tuple [.str "set", .str x]
  | .same x y => .tuple [.str "same", .str x, .str y]
  | .full x f => .tuple [.str "full", .str x, .str f]
  | .wished w => .tuple [.str "wished", .str w]
  | .not t => .tuple [.str "not", t.data]
inductive Act
  | make (x : Str)
  | wish (x w : Str)
  | keep (x : Str)
  | name (x y : Str)
  | drop (x : Str)
  | hold (x f y : Str)
  | weak (x f y : Str)
  | cut (x f : Str)
  | take (z x f : Str)
  | say (w : Str)
  | ask (t : Tst)
def Act.data : Act → PyData
  | .make x => .tuple [.str "make", .str x]
  | .wish x w => .tuple [.str "wish", .str x, .str w]
  | .keep x => .tuple [.str "keep", .str x]
  | .name x y => .tuple [.str "name", .str x, .str y]
  | .drop x => .tuple [.str "drop", .str x]
  | .hold x f y => .tuple [.str "hold", .str x, .str f, .str y]
  | .weak x f y => .tuple [.str "weak", .str x, .str f, .str y]
  | .cut x f => .tuple [.str "cut", .str x, .str f]
  | .take z x f => .tuple [.str "take", .str z, .str x, .str f]
  | .say w => .tuple [.str "say", .str w]
  | .ask t => .tuple [.str "ask", t.data]
inductive Sta
  | act (a : Act)
  | cond (t : Tst) (y n : List Sta)
  | rep (k : Nat) (b : List Sta)
mutual
def Sta.data : Sta → PyData
  | .act a => a.data
  | .cond t y n => .tuple [.str "if", t.data, .tuple (blkData y), .tuple (blkData n)]
  | .rep k b => .tuple [.str "repeat", .int k, .tuple (blkData b)]
def blkData : List Sta → List PyData
  | [] => []
  | s :: r => s.data :: blkData r
end
theorem blkData_eq : ∀ b : List Sta, blkData b = b.map Sta.data
  | [] => rfl
  | s :: r => by
    show s.data :: blkData r = _
    rw [blkData_eq r]
    rfl
mutual
def Sta.size : Sta → Nat
  | .act _ => 1
  | .cond _ y n => 1 + (sizeB y + sizeB n)
  | .rep _ b => 1 + sizeB b
def sizeB : List Sta → Nat
  | [] => 0
  | s :: r => s.size + sizeB r
end
theorem sizeB_snoc (s : Sta) : ∀ b : List Sta, sizeB (b ++ [s]) = sizeB b + s.size
  | [] => by show s.size + 0 = 0 + s.size; omega
  | x :: r => by
    show x.size + sizeB (r ++ [s]) = x.size + sizeB r + s.size
    rw [sizeB_snoc s r]; omega
/-- a drawn text: short, of Unicode's signs -/
def Nm (x : Str) : Prop := x.length ≤ 8 ∧ OkS x
def Tst.nm : Tst → Prop
  | .given i => i < 4
  | .set x => Nm x
  | .same x y => Nm x ∧ Nm y
  | .full x y => Nm x ∧ Nm y
  | .wished x => Nm x
  | .not t => t.nm
def Tst.ok (t : Tst) : Prop := t.nm ∧ t.depth ≤ 3
def Act.nm : Act → Prop
  | .make x => Nm x
  | .wish x w => Nm x ∧ Nm w
  | .keep x => Nm x
  | .name x y => Nm x ∧ Nm y
  | .drop x => Nm x
  | .hold x f y => Nm x ∧ Nm f ∧ Nm y
  | .weak x f y => Nm x ∧ Nm f ∧ Nm y
  | .cut x f => Nm x ∧ Nm f
  | .take z x f => Nm z ∧ Nm x ∧ Nm f
  | .say w => Nm w
  | .ask t => t.ok
/-- statements so deep at most -/
def StaOk : Nat → Sta → Prop
  | _, .act a => a.nm
  | 0, _ => False
  | d + 1, .cond t y n => t.ok ∧ (∀ s ∈ y, StaOk d s) ∧ ∀ s ∈ n, StaOk d s
  | d + 1, .rep k b => k < 13 ∧ ∀ s ∈ b, StaOk d s
/-! ### texts that grow -/
theorem join_len (ys : List Str) (B : Nat) (h : ∀ y ∈ ys, y.length ≤ B) : (Txt.join "" ys).length ≤ ys.length * B := by
  rw [TL.join_eq]
  induction ys with
  | nil => exact Nat.zero_le _
  | cons y r ih =>
    have ih := ih fun z hz => h z (List.mem_cons_of_mem _ hz)
    have hy := h y (List.mem_cons_self ..)
    cases r with
    | nil =>
      show y.length ≤ 1 * B
      omega
    | cons z r =>
      show (y ++ ("" : Str) ++ Str.join "" (z :: r)).length ≤ ((z :: r).length + 1) * B
      rw [strLen_append, strLen_append, Nat.add_mul, Nat.one_mul]
      have e0 : ("" : Str).length = 0 := rfl
      omega
theorem sum_le (ys : List Str) (B : Nat) (h : ∀ y ∈ ys, y.length ≤ B) : (ys.map (·.length)).sum ≤ ys.length * B := by
  induction ys with
  | nil => exact Nat.zero_le _
  | cons y r ih =>
    have ih := ih fun z hz => h z (List.mem_cons_of_mem _ hz)
    have hy := h y (List.mem_cons_self ..)
    rw [List.map_cons, List.sum_cons, List.length_cons, Nat.add_mul, Nat.one_mul]
    omega
theorem join0_ok (ys : List Str) (h : ∀ y ∈ ys, OkS y) : OkS (Txt.join "" ys) := by
  rw [TL.join_eq]
  induction ys with
  | nil => exact OkS.of ""
  | cons y r ih =>
    have ih := ih fun z hz => h z (List.mem_cons_of_mem _ hz)
    have hy := h y (List.mem_cons_self ..)
    cases r with
    | nil => exact hy
    | cons z r => exact (hy.app (OkS.of "")).app ih
theorem sign_ok {c : Nat} {s : String} (h : c ∈ (Str.ofString s).cps.toList) : OkS ⟨#[c]⟩ := fun x hx => by
  have e : x = c := by simpa using hx
  rw [e]
  exact OkS.of s c h
/-- a new list of texts grows at a, one a turn, each turn takes at most c numbers of the deck -/
def GrowS (D L a : Addr) (H1 : Hp) (m c B : Nat) (i : Nat) (H' : Hp) : Prop := ∃ ys : List Str, Ch [a, D, L] H1 H' ∧ Deck H' D L (m + i * c) ∧ H' a = some (.lst (ys.map V.str)) ∧ ys.length = i ∧ ∀ y ∈ ys, y.length ≤ B ∧ OkS y
theorem GrowS.start {D L a : Addr} {H1 : Hp} {m c B : Nat} (d : Deck H1 D L m) (na : H1 a = none) : GrowS D L a H1 m c B 0 (upd H1 a (.lst [])) :=
  ⟨[], (Ch.refl _ _).new na, (d.new na).mono (by omega), upd_same, rfl, fun _ z => nomatch z⟩
theorem GrowS.step {D L a : Addr} {H1 H' H4 : Hp} {m c B i : Nat} {y : Str} (g : GrowS D L a H1 m c B i H') (hi : i < 1000) (kp : Ch [D, L] H' H4) (d : Deck H4 D L (m + i * c + c)) (ne : a ∉ [D, L]) (hy : y.length ≤ B) (ho : OkS y) :
    ∃ acc, H4 a = some (.lst acc) ∧ acc.length < sizeLine ∧ GrowS D L a H1 m c B (i + 1) (upd H4 a (.lst (acc ++ [.str y]))) := by
  obtain ⟨ys, k0, d0, ha, hl, hb⟩ := g
  have ne1 : a ≠ D := fun z => ne (by simp [z])
  have ne2 : a ≠ L := fun z => ne (by simp [z])
  have ha4 := kp.kp _ _ ne ha
  refine ⟨_, ha4, by rw [List.length_map, hl]; exact small1000 (by omega), ys ++ [y], (k0.trans (kp.mono fun b hb => List.mem_cons_of_mem _ hb)).put (by simp) ha4 (fun xs z => by cases z), ?_, ?_, by rw [List.length_append, hl]; rfl, fun z hz => ?_⟩
  · refine Deck.mono (n := m + i * c + c) ?_ (by rw [Nat.add_mul]; omega)
    exact d.kp (S := [a]) ((Kp.refl _ _).put (by simp)) (by simpa using ne1.symm) (by simpa using ne2.symm)
  · rw [upd_same, List.map_append]
    rfl
  · rcases List.mem_append.mp hz with hz | hz
    · exact hb z hz
    · rw [List.mem_singleton.mp hz]
      exact ⟨hy, ho⟩
theorem deck_ch {H H' : Hp} {D L : Addr} {n n' : Nat} (d : Deck H D L n) (d' : Deck H' D L n') (k : Kp [D, L] H H') : Ch [D, L] H H' := by
  obtain ⟨ne, m, ns, h1, h2, _⟩ := d
  obtain ⟨_, m', ns', g1, g2, _⟩ := d'
  refine ⟨k, fun b xs e => ?_, fun b o e => ?_⟩
  · refine k _ _ (fun z => ?_) e
    rcases List.mem_cons.mp z with rfl | z
    · rw [h1] at e; cases e
    · rw [List.mem_singleton.mp z, h2] at e; cases e
  · by_cases z : b ∈ [D, L]
    · rcases List.mem_cons.mp z with rfl | z
      · exact ⟨_, g1⟩
      · rw [List.mem_singleton.mp z]; exact ⟨_, g2⟩
    · exact ⟨o, k _ _ z e⟩
def rAddE : R2 := fun x y H Q => ∃ i j, x = .int i ∧ y = .int j ∧ ∀ z, z = i + j → Q (.int z) H
theorem op_addE {X : Cx} : OpR X (binaryOp .Add) rAddE := by
  intro pins s σ H x y v u Q I rx ry h
  obtain ⟨i, j, rfl, rfl, q⟩ := h
  exact op_add pins s σ H _ _ v u Q I rx ry ⟨i, j, rfl, rfl, q _ rfl⟩
end G

set_option Elab.async false
set_option linter.all false
set_option maxRecDepth 100000
set_option maxHeartbeats 4000000
/-! _law_kept, _law_name, _law_word. -/
namespace G
open PySem PySem.Spec PyProof.Rows L2
theorem cut7 (z : Str) (h : OkS z) : (cutS z none (some 7)).length ≤ 7 ∧ OkS (cutS z none (some 7)) := by
  have e : HT.sIx z.length z.length (some 7) ≤ 7 := by
    have := HT.sIx_nat z.length z.length 7
    show HT.sIx z.length z.length (some ((7 : Nat) : Int)) ≤ 7
    rw [this]
    exact Nat.min_le_left _ _
  constructor
  · show ((List.take _ _).toArray).size ≤ 7
    rw [List.size_toArray, List.length_take]
    omega
  · intro c hc
    unfold cutS at hc
    rw [List.toList_toArray] at hc
    exact h c (List.mem_of_mem_drop (List.mem_of_mem_take hc))
section
variable {P : Program} {w : World} {K : PySem.W.Frag} {mg : Str → Option Value} {base : Heap}
abbrev s__law_kept : Stmt := top 11
abbrev n__law_kept : List Str := ["_law_words"]
theorem sc__law_kept : FnScope n__law_kept [] (defScope s__law_kept) := ⟨rfl, rfl, rfl, by decide +kernel, rfl, by decide +kernel, by decide +kernel⟩
def spKept : Sp := fun vs H Q _ => vs = [] ∧ ∀ H' a (ws : List Str), Same H H' → H' a = some (.lst (ws.map V.str)) → Q (.ref a) H'
theorem ok_kept {f : Addr} {fd : FuncData} {k : Nat} (F : Fun K "_law_kept" "_law_kept" s__law_kept f fd) : FnOk P w K mg base CX0 (k + 1) f fd [] spKept := by
  refine F.ok sc__law_kept (fun vs H Q E ⟨ev, _⟩ => by rw [ev]; rfl) (fun cdv A outer s H vs Q E hr ⟨ev, q⟩ => ?_)
  subst ev
  refine ⟨_, (pss_cons (ps_set (i := 0) sc__law_kept.nd rfl (.inl rfl) pe_str)
      (pss_one (ps_ret (pe_bm0 PySem.F.plainAttrs_str PySem.F.slot_str_split PySem.F.type_str_split mt_words (pv 0))))), ?_⟩
  refine ⟨_, rfl, rfl, _, rfl, rfl, line1000 (by decide +kernel), fun p np => ?_⟩
  exact q _ p _ (Same.up np) upd_same
abbrev s__law_name : Stmt := top 12
abbrev n__law_name : List Str := ["_law_deck_here", "_law_letters", "_law_name_here", "_law_k"]
theorem sc__law_name : FnScope n__law_name ["_law_deck_here"] (defScope s__law_name) := ⟨rfl, rfl, rfl, by decide +kernel, rfl, by decide +kernel, by decide +kernel⟩
def spName : Sp := fun vs H Q _ => ∃ (D L : Addr) (n : Nat), vs = [.ref D] ∧ Deck H D L n ∧ n < 10 ^ 11 ∧ ∀ H' x, Kp [D, L] H H' → Deck H' D L (n + 12) → Nm x → Q (.str x) H'
theorem ok_name {f f1 f2 f3 : Addr} {fd fd1 fd2 fd3 : FuncData} (F : Fun K "_law_name" "_law_name" s__law_name f fd) (T : Bi mg)
    (D1 : Df K mg "_law_draw" s__law_draw ["_law_deck_here", "_law_many"] f1 fd1) (G1 : FnOk P w K mg base CX0 1 f1 fd1 ["_law_deck_here", "_law_many"] spDraw)
    (D2 : Df K mg "_law_one" s__law_one ["_law_deck_here", "_law_items"] f2 fd2) (G2 : FnOk P w K mg base CX0 2 f2 fd2 ["_law_deck_here", "_law_items"] (spOne K))
    (D3 : Df K mg "_law_kept" s__law_kept [] f3 fd3) (G3 : FnOk P w K mg base CX0 1 f3 fd3 [] spKept) : FnOk P w K mg base CX0 3 f fd ["_law_deck_here"] spName := by
  refine F.ok sc__law_name (fun vs H Q E ⟨D, L, n, ev, _⟩ => by rw [ev]; rfl) (fun cdv A outer s H vs Q E hr ⟨D, L, n, ev, hD, hn, q⟩ => ?_)
  subst ev
  have hr1 : Room 1 _ := hr.mono (by decide)
  refine ⟨_, (pss_cons (ps_set (i := 1) sc__law_name.nd rfl (.inl rfl) pe_str)
      (pss_cons (ps_set (i := 2) sc__law_name.nd rfl (.inl rfl) (pe_call G2 hr (by rfl) D2.m D2.F.kp D2.b .nil pass0 (pa_cons (pv 0) (pa_cons (pv 1) pa_nil))))
      (pss_cons (ps_for PassesOwn.never rfl (pi_range1 (by rfl) T.z_range (pa_cons (pe_call G2 hr (by rfl) D2.m D2.F.kp D2.b .nil pass0 (pa_cons (pv 0) (pa_cons (pe_lst (pa_cons pe_int (pa_cons pe_int (pa_cons pe_int (pa_cons (pe_call G1 hr1 (by rfl) D1.m D1.F.kp D1.b .nil pass0 (pa_cons (pv 0) (pa_cons pe_int pa_nil))) pa_nil))))) pa_nil))) pa_nil)) (pg_name (i := 3) sc__law_name.nd rfl (.inl rfl))
      (pss_one (ps_set (i := 2) sc__law_name.nd rfl (.inl rfl) (pe_op op_add_str (pv 2) (pe_call G2 hr (by rfl) D2.m D2.F.kp D2.b .nil pass0 (pa_cons (pv 0) (pa_cons (pe_op op_add_str (pv 1) pe_str) pa_nil)))))))
      (pss_one (ps_ret (pe_ifExp (pt_cmpR op_notIn_seq (pv 2) (pe_call0 G3 hr1 (by rfl) D3.m D3.F.kp D3.b .nil pass0) (by rfl)) (pv 2) (pe_op op_add_str (pe_slice sl_str (pv 2) po_none (po_some pe_int)) pe_str))))))), ?_⟩
  have lt26 : ∀ (H2 : Hp) (m : Nat) (z : String), Deck H2 D L m → m < 10 ^ 12 → 0 < (Str.ofString z).length → (Str.ofString z).length ≤ 1000 → ∀ (Q' : VK), (∀ H' c, Kp [D, L] H2 H' → Deck H' D L (m + 1) → OkS ⟨#[c]⟩ → Q' (.str ⟨#[c]⟩) H') → spOne K [.ref D, .str (Str.ofString z)] H2 Q' E0 := fun H2 m z d hm z0 z1 Q' h =>
    ⟨D, L, m, _, rfl, d, hm, .inr ⟨_, rfl, z0, z1, fun H' c k' d' hc => h H' c k' d' (sign_ok hc)⟩⟩
  refine ⟨.ref D, rfl, _, rfl, lt26 H n "abcdefghijklmnopqrstuvwxyz" hD (by omega) (by decide +kernel) (by decide +kernel) _ fun H1 c k1 hD1 oc => ?_⟩
  have sgn : ∀ {z : Str} {c : Nat}, OkS z → c ∈ z.cps.toList → OkS ⟨#[c]⟩ := fun {z c} hz hc x hx => by
    have e : x = c := by simpa using hx
    rw [e]
    exact hz c hc
  refine ⟨.ref D, rfl, .ref D, rfl, D, L, _, 8, rfl, hD1, by omega, by decide, by decide, fun H2 r k2 hD2 r0 r1 => ⟨line1000 (Nat.le_of_ble_eq_true rfl), fun l nl => ?_⟩⟩
  have hl : l ∉ [D, L] := by simpa using hD2.neD nl
  have s3 := Same.up (o := HO.lst [V.int 0, V.int 1, V.int 7, V.int r]) nl
  have hD3 := hD2.kp (Kp.same (S := []) s3) (fun z => nomatch z) (fun z => nomatch z)
  refine ⟨D, L, _, .ref l, rfl, hD3, by omega, .inl ⟨l, _, rfl,   .inl ⟨SqL.of upd_same, hl⟩, Nat.le_of_ble_eq_true rfl, Nat.le_of_ble_eq_true rfl, fun H4 y k4 hD4 hy => ?_⟩⟩
  obtain ⟨m, rfl, m0, m7⟩ : ∃ m : Int, y = .int m ∧ 0 ≤ m ∧ m ≤ 7 := by
    simp only [List.mem_cons, List.not_mem_nil, or_false] at hy
    rcases hy with rfl | rfl | rfl | rfl
    · exact ⟨0, rfl, by decide, by decide⟩
    · exact ⟨1, rfl, by decide, by decide⟩
    · exact ⟨7, rfl, by decide, by decide⟩
    · exact ⟨r, rfl, r0, by omega⟩
  have k14 : Kp [D, L] H H4 := k1.trans (k2.trans ((Kp.same s3).trans k4))
  clear k1 k2 s3 k4 hD3 hD2 hD1 nl
  refine ⟨m, rfl, by omega, by omega, for_range (lo := 0) (n := m.toNat) (fun i σ H' => Kp [D, L] H4 H' ∧ Deck H' D L (n + 3 + i) ∧ ∃ (x : Str) (x3 : Option V), x.length = 1 + i ∧ OkS x ∧ σ = [some (.ref D), some (.str "abcdefghijklmnopqrstuvwxyz"), some (.str x), x3])
    ⟨Kp.refl _ _, hD4, _, _, rfl, oc, rfl⟩ ?_ ?_⟩
  · rintro i σ H' hi ⟨kk, hD', x, x3, lx, ox, rfl⟩
    have o36 : OkS (Str.ofString "abcdefghijklmnopqrstuvwxyz" ++ Str.ofString "0123456789") := (OkS.of _).app (OkS.of _)
    refine ⟨_, rfl, .ref D, rfl, _, rfl, _, _, rfl, rfl, line1000 (by decide +kernel), D, L, _, _, rfl, hD', by omega, .inr ⟨_, rfl, by decide +kernel, by decide +kernel, fun H5 c5 k5 hD5 hc => ⟨_, _, rfl, rfl, line1000 (by show x.length + 1 ≤ 1000; omega), kk.trans k5, hD5, _, _, ?_, ox.app (sgn o36 hc), rfl⟩⟩⟩
    rw [strLen_append, lx]
    show 1 + i + 1 = 1 + (i + 1)
    omega
  · rintro σ H' ⟨kk, hD', x, x3, lx, ox, rfl⟩
    refine ⟨_, rfl, rfl, fun H5 a5 ws s5 g5 => ⟨a5, _, rfl, .inl (SqL.of g5), rfl, ?_, _, rfl, ite2 (fun _ => ⟨_, rfl, ?_⟩) (fun _ => ?_)⟩⟩
    · rw [List.all_eq_true]
      intro y hy
      obtain ⟨z, _, rfl⟩ := List.mem_map.mp hy
      rfl
    · exact q H5 x (k14.trans (kk.trans (Kp.same s5))) ((hD'.kp (Kp.same (S := []) s5) (fun z => nomatch z) (fun z => nomatch z)).mono (by omega)) ⟨by omega, ox⟩
    · obtain ⟨c1, c2⟩ := cut7 x ox
      refine ⟨_, rfl, _, rfl, _, rfl, line1000 (by omega), _, _, rfl, rfl, line1000 (by show (cutS x none (some 7)).length + 1 ≤ 1000; omega), ?_⟩
      exact q H5 _ (k14.trans (kk.trans (Kp.same s5))) ((hD'.kp (Kp.same (S := []) s5) (fun z => nomatch z) (fun z => nomatch z)).mono (by omega)) ⟨by rw [strLen_append]; show (cutS x none (some 7)).length + 1 ≤ 8; omega, c2.app (OkS.of "0")⟩
abbrev s__law_word : Stmt := top 13
abbrev n__law_word : List Str := ["_law_deck_here", "_law_signs", "_law_k"]
theorem sc__law_word : FnScope n__law_word ["_law_deck_here"] (defScope s__law_word) := ⟨rfl, rfl, rfl, by decide +kernel, rfl, by decide +kernel, by decide +kernel⟩
theorem ok_word {f f1 f2 : Addr} {fd fd1 fd2 : FuncData} (F : Fun K "_law_word" "_law_word" s__law_word f fd) (T : Bi mg)
    (D1 : Df K mg "_law_draw" s__law_draw ["_law_deck_here", "_law_many"] f1 fd1) (G1 : FnOk P w K mg base CX0 1 f1 fd1 ["_law_deck_here", "_law_many"] spDraw)
    (D2 : Df K mg "_law_one" s__law_one ["_law_deck_here", "_law_items"] f2 fd2) (G2 : FnOk P w K mg base CX0 2 f2 fd2 ["_law_deck_here", "_law_items"] (spOne K)) : FnOk P w K mg base CX0 3 f fd ["_law_deck_here"] spName := by
  refine F.ok sc__law_word (fun vs H Q E ⟨D, L, n, ev, _⟩ => by rw [ev]; rfl) (fun cdv A outer s H vs Q E hr ⟨D, L, n, ev, hD, hn, q⟩ => ?_)
  subst ev
  have hr1 : Room 1 _ := hr.mono (by decide)
  refine ⟨_, (pss_cons (ps_set (i := 1) sc__law_word.nd rfl (.inr rfl) pe_str)
      (pss_one (ps_ret (pe_join pe_str (pe_lc (te := tCall (spOne K) [] E0 (tCons (tVar 0) (tCons (tVar 1) tNil))) (own := [("_law_k", 2)]) (by rfl) sc__law_word.nd (pi_range1 (by rfl) T.z_range (pa_cons (pe_call G2 hr (by rfl) D2.m D2.F.kp D2.b .nil pass0 (pa_cons (pv 0) (pa_cons (pe_lst (pa_cons pe_int (pa_cons pe_int (pa_cons pe_int (pa_cons (pe_op op_addE pe_int (pe_call G1 hr1 (by rfl) D1.m D1.F.kp D1.b .nil pass0 (pa_cons (pv 0) (pa_cons pe_int pa_nil)))) pa_nil))))) pa_nil))) pa_nil)) (blkOk_by (N := n__law_word) (sc := defScope s__law_word) (by decide +kernel)) (fun _ _ _ _ _ => (pg_name (i := 2) sc__law_word.nd rfl (.inl rfl))) (fun _ _ _ _ _ => pts_nil) (fun _ _ _ _ _ => (pe_call G2 hr (by rfl) D2.m D2.F.kp D2.b .nil pass0 (pa_cons (pv 0) (pa_cons (pv 1) pa_nil))))))))), ?_⟩
  refine ⟨⟨_, rfl⟩, .ref D, rfl, .ref D, rfl, D, L, _, 8, rfl, hD, by omega, by decide, by decide, fun H2 r k2 hD2 r0 r1 => ⟨_, _, rfl, rfl, fun r' er => ⟨line1000 (Nat.le_of_ble_eq_true rfl), fun l nl => ?_⟩⟩⟩
  have hl : l ∉ [D, L] := by simpa using hD2.neD nl
  have s3 := Same.up (o := HO.lst [V.int 1, V.int 2, V.int 8, V.int r']) nl
  have hD3 := hD2.kp (Kp.same (S := []) s3) (fun z => nomatch z) (fun z => nomatch z)
  refine ⟨D, L, _, .ref l, rfl, hD3, by omega, .inl ⟨l, _, rfl, .inl ⟨SqL.of upd_same, hl⟩, Nat.le_of_ble_eq_true rfl, Nat.le_of_ble_eq_true rfl, fun H4 y k4 hD4 hy => ?_⟩⟩
  obtain ⟨m, rfl, m0, m7⟩ : ∃ m : Int, y = .int m ∧ 0 ≤ m ∧ m ≤ 8 := by
    simp only [List.mem_cons, List.not_mem_nil, or_false] at hy
    rcases hy with rfl | rfl | rfl | rfl
    · exact ⟨1, rfl, by decide, by decide⟩
    · exact ⟨2, rfl, by decide, by decide⟩
    · exact ⟨8, rfl, by decide, by decide⟩
    · exact ⟨r', rfl, by omega, by omega⟩
  have k14 : Kp [D, L] H H4 := k2.trans ((Kp.same s3).trans k4)
  clear k2 s3 k4 hD3 hD2 nl
  refine ⟨m, rfl, by omega, by omega, fun a na => ?_⟩
  have na1 : a ∉ [D, L] := by simpa using hD4.neD na
  refine lc_range (lo := 0) (n := m.toNat) (GrowS D L a H4 (n + 2) 1 1) (GrowS.start hD4 na) ?_ ?_
  · rintro i H' hi g
    obtain ⟨_, _, hD', _⟩ := id g
    refine ⟨rfl, .ref D, rfl, _, rfl, D, L, _, _, rfl, hD', by omega, .inr ⟨_, rfl, by decide +kernel, by decide +kernel, fun H5 c k5 d5 hc => ?_⟩⟩
    exact g.step (by omega) (deck_ch hD' d5 k5) d5 na1 (Nat.le_refl _) (sign_ok (s := "0123456789abcdefghijklmnopqrstuvwxyz") hc)
  · rintro H5 ⟨ys, c5, hD5, ha, hl5, hy5⟩
    have hy : ∀ y ∈ ys, y.length ≤ 1 := fun y h => (hy5 y h).1
    have ojn := join0_ok ys fun y h => (hy5 y h).2
    have hjn := join_len ys 1 hy
    refine ⟨"", a, ys, rfl, rfl, .inl (SqL.of ha), ?_, ?_⟩
    · have z := sum_le ys 1 hy
      have e0 : ("" : Str).length = 0 := rfl
      rw [e0, Nat.mul_zero]
      omega
    · exact q H5 _ (k14.trans (c5.kp.fresh na)) (hD5.mono (by omega)) ⟨by omega, ojn⟩
/-! ### the pool -/
def Pool (H : Hp) (D L a : Addr) (g : Int) : Prop := ∃ (N Wd : Addr) (ns ws : List Str), H a = some (.lst [.ref N, .ref Wd, .int g]) ∧ H N = some (.lst (ns.map V.str)) ∧ H Wd = some (.lst (ws.map V.str)) ∧ (∀ x ∈ ns, Nm x) ∧ (∀ x ∈ ws, Nm x) ∧ (0 < ns.length ∧ ns.length ≤ 5) ∧ (0 < ws.length ∧ ws.length ≤ 5) ∧ (0 ≤ g ∧ g < 4) ∧ a ∉ [D, L] ∧ N ∉ [D, L] ∧ Wd ∉ [D, L]
theorem Pool.kp {H H' : Hp} {D L a : Addr} {g : Int} (p : Pool H D L a g) (k : Kp [D, L] H H') : Pool H' D L a g := by
  obtain ⟨N, Wd, ns, ws, h1, h2, h3, h4, h5, h6, h7, h8, n1, n2, n3⟩ := p
  exact ⟨N, Wd, ns, ws, k _ _ n1 h1, k _ _ n2 h2, k _ _ n3 h3, h4, h5, h6, h7, h8, n1, n2, n3⟩
abbrev s__law_pool : Stmt := top 14
abbrev n__law_pool : List Str := ["_law_deck_here", "_law_names", "_law_k"]
theorem sc__law_pool : FnScope n__law_pool ["_law_deck_here"] (defScope s__law_pool) := ⟨rfl, rfl, rfl, by decide +kernel, rfl, by decide +kernel, by decide +kernel⟩
def spPool : Sp := fun vs H Q _ => ∃ (D L : Addr) (n : Nat), vs = [.ref D] ∧ Deck H D L n ∧ n < 9 * 10 ^ 10 ∧ ∀ H' a g, Kp [D, L] H H' → Deck H' D L (n + 200) → Pool H' D L a g → Q (.ref a) H'
theorem ok_pool {f f1 f2 f3 : Addr} {fd fd1 fd2 fd3 : FuncData} (F : Fun K "_law_pool" "_law_pool" s__law_pool f fd) (T : Bi mg)
    (D1 : Df K mg "_law_draw" s__law_draw ["_law_deck_here", "_law_many"] f1 fd1) (G1 : FnOk P w K mg base CX0 1 f1 fd1 ["_law_deck_here", "_law_many"] spDraw)
    (D2 : Df K mg "_law_name" s__law_name ["_law_deck_here"] f2 fd2) (G2 : FnOk P w K mg base CX0 3 f2 fd2 ["_law_deck_here"] spName)
    (D3 : Df K mg "_law_word" s__law_word ["_law_deck_here"] f3 fd3) (G3 : FnOk P w K mg base CX0 3 f3 fd3 ["_law_deck_here"] spName) : FnOk P w K mg base CX0 4 f fd ["_law_deck_here"] spPool := by
  refine F.ok sc__law_pool (fun vs H Q E ⟨D, L, n, ev, _⟩ => by rw [ev]; rfl) (fun cdv A outer s H vs Q E hr ⟨D, L, n, ev, hD, hn, q⟩ => ?_)
  subst ev
  have hr1 : Room 1 _ := hr.mono (by decide)
  refine ⟨_, (pss_cons (ps_setLc (i := 1) (te := tCall spName [] E0 (tCons (tVar 0) tNil)) (own := [("_law_k", 2)]) (by rfl) sc__law_pool.nd rfl rfl (sw_true rfl rfl rfl (by decide +kernel)) (pi_range1 (by rfl) T.z_range (pa_cons (pe_op op_addE pe_int (pe_call G1 hr1 (by rfl) D1.m D1.F.kp D1.b .nil pass0 (pa_cons (pv 0) (pa_cons pe_int pa_nil)))) pa_nil)) (blkOk_by (N := n__law_pool) (sc := defScope s__law_pool) (by decide +kernel)) (fun _ _ _ _ _ => (pg_name (i := 2) sc__law_pool.nd rfl (.inl rfl))) (fun _ _ _ _ _ => pts_nil) (fun _ _ _ _ _ => (pe_call G2 hr (by rfl) D2.m D2.F.kp D2.b .nil pass0 (pa_cons (pv 0) pa_nil))))
      (pss_one (ps_ret (pe_lst (pa_cons (pv 1) (pa_cons (pe_lc (te := tCall spName [] E0 (tCons (tVar 0) tNil)) (own := [("_law_k", 2)]) (by rfl) sc__law_pool.nd (pi_range1 (by rfl) T.z_range (pa_cons (pe_op op_addE pe_int (pe_call G1 hr1 (by rfl) D1.m D1.F.kp D1.b .nil pass0 (pa_cons (pv 0) (pa_cons pe_int pa_nil)))) pa_nil)) (blkOk_by (N := n__law_pool) (sc := defScope s__law_pool) (by decide +kernel)) (fun _ _ _ _ _ => (pg_name (i := 2) sc__law_pool.nd rfl (.inl rfl))) (fun _ _ _ _ _ => pts_nil) (fun _ _ _ _ _ => (pe_call G3 hr (by rfl) D3.m D3.F.kp D3.b .nil pass0 (pa_cons (pv 0) pa_nil)))) (pa_cons (pe_call G1 hr1 (by rfl) D1.m D1.F.kp D1.b .nil pass0 (pa_cons (pv 0) (pa_cons pe_int pa_nil))) pa_nil))))))), ?_⟩
  refine ⟨.ref D, rfl, D, L, _, 5, rfl, hD, by omega, by decide, by decide, fun H1 r k1 hD1 r0 r1 => ⟨_, _, rfl, rfl, fun m em => ⟨m, rfl, by omega, by omega, fun N nN => ?_⟩⟩⟩
  have neN : N ∉ [D, L] := by simpa using hD1.neD nN
  refine lc_range (lo := 0) (n := m.toNat) (GrowS D L N H1 (n + 1) 12 8) (GrowS.start hD1 nN) ?_ ?_
  · rintro i H' hi g
    obtain ⟨_, _, hD', _⟩ := id g
    refine ⟨rfl, .ref D, rfl, D, L, _, rfl, hD', by omega, fun H5 x k5 d5 hx => ?_⟩
    exact g.step (by omega) (deck_ch hD' d5 k5) d5 neN hx.1 hx.2
  rintro H2 ⟨ns, c2, hD2, gN, lN, hN⟩
  have k02 : Kp [D, L] H H2 := k1.trans (c2.kp.fresh nN)
  refine ⟨_, rfl, .ref D, rfl, D, L, _, 4, rfl, hD2, by omega, by decide, by decide, fun H3 r3 k3 hD3 r30 r31 => ⟨_, _, rfl, rfl, fun m3 em3 => ⟨m3, rfl, by omega, by omega, fun Wd nW => ?_⟩⟩⟩
  have neW : Wd ∉ [D, L] := by simpa using hD3.neD nW
  have gN3 := k3 _ _ neN gN
  have neNW : N ≠ Wd := fun z => by rw [← z, gN3] at nW; cases nW
  refine lc_range (lo := 0) (n := m3.toNat) (GrowS D L Wd H3 (n + 1 + m.toNat * 12 + 1) 12 8) (GrowS.start hD3 nW) ?_ ?_
  · rintro i H' hi g
    obtain ⟨_, _, hD', _⟩ := id g
    refine ⟨rfl, .ref D, rfl, D, L, _, rfl, hD', by omega, fun H5 x k5 d5 hx => ?_⟩
    exact g.step (by omega) (deck_ch hD' d5 k5) d5 neW hx.1 hx.2
  rintro H4 ⟨ws, c4, hD4, gW, lW, hW⟩
  have gN4 := c4.kp _ _ (by simp at neN ⊢; exact ⟨neNW, neN.1, neN.2⟩) gN3
  refine ⟨.ref D, rfl, D, L, _, 4, rfl, hD4, by omega, by decide, by decide, fun H5 g k5 hD5 g0 g1 => ⟨line1000 (Nat.le_of_ble_eq_true rfl), fun a na => ?_⟩⟩
  have s6 := Same.up (o := HO.lst [V.ref N, V.ref Wd, V.int g]) na
  refine q _ a g (k02.trans (k3.trans ((c4.kp.fresh nW).trans (k5.trans (Kp.same s6))))) ((hD5.kp (Kp.same (S := []) s6) (fun z => nomatch z) (fun z => nomatch z)).mono (by omega)) ⟨N, Wd, ns, ws, upd_same, s6 _ _ (k5 _ _ neN gN4), s6 _ _ (k5 _ _ neW gW), fun x hx => hN x hx, fun x hx => hW x hx, by omega, by omega, ⟨g0, g1⟩, by simpa using hD5.neD na, neN, neW⟩
end
end G

set_option Elab.async false
set_option linter.all false
set_option maxRecDepth 100000
set_option maxHeartbeats 4000000
/-! Written data: what an expression of tuples, texts and names gives. -/
namespace G
open PySem PySem.Spec PyProof.Rows L2 StX
abbrev CT := L2.St → Hp → Prop
def Stable (C : CT) : Prop := ∀ σ H H', Same H H' → C σ H → C σ H'
def MkE (C : CT) (te : TE) (d : PyData) : Prop := ∀ σ H Q, C σ H → (∀ H' v, Same H H' → TD H' v d → Q v H') → te σ H Q
def MkA (C : CT) (t : TA) (ds : List PyData) : Prop := ∀ σ H Q, C σ H → (∀ H' vs, Same H H' → TDs H' vs ds → Q vs H') → t σ H Q
variable {C : CT}
theorem mkA_nil : MkA C tNil [] := fun _ H Q _ q => q H [] (Same.refl _) .nil
theorem mkA_cons {te : TE} {t : TA} {d : PyData} {ds : List PyData} (hC : Stable C) (h : MkE C te d) (ht : MkA C t ds) : MkA C (tCons te t) (d :: ds) := fun σ H Q c q =>
  h σ H _ c fun H1 v s1 td => ht σ H1 _ (hC _ _ _ s1 c) fun H2 vs s2 tds => q H2 (v :: vs) (Same.trans s1 s2) (.cons (TD.ch (Ch.same (S := []) s2) _ _ td) tds)
theorem mk_tup {t : TA} {ds : List PyData} (ht : MkA C t ds) (hl : ds.length ≤ 1000) : MkE C (tTup t) (.tuple ds) := fun σ H Q c q =>
  ht σ H _ c fun H1 vs s1 tds => ⟨by rw [tds.len]; exact line1000 hl, fun p np => q _ _ (Same.trans s1 (Same.up np)) (.tup upd_same (TDs.ch (Ch.same (S := []) (Same.up np)) _ _ tds))⟩
theorem mk_str (x : Str) : MkE C (tC (.str x)) (.str x) := fun σ H Q _ q => q H _ (Same.refl _) (.str x)
theorem mk_int (i : Int) : MkE C (tC (.int i)) (.int i) := fun σ H Q _ q => q H _ (Same.refl _) (.int i)
theorem mk_bl (b : Bool) : MkE C (tC (.bl b)) (.bool b) := fun σ H Q _ q => q H _ (Same.refl _) (.bl b)
theorem mk_var {i : Nat} {d : PyData} (h : ∀ σ H, C σ H → ∃ v, σ[i]? = some (some v) ∧ TD H v d) : MkE C (tVar i) d := fun σ H Q c q => let ⟨v, e, td⟩ := h σ H c; ⟨v, e, q H v (Same.refl _) td⟩
theorem mk_nix {K : PySem.W.Frag} {i : Nat} {k : Nat} {x : Str} (h : ∀ σ H, C σ H → ∃ N xs, σ[i]? = some (some (.ref N)) ∧ H N = some (.lst xs) ∧ xs[k]? = some (.str x)) : MkE C (tOp (rIxL K) (tVar i) (tC (.int (k : Nat)))) (.str x) := fun σ H Q c q => by
  obtain ⟨N, xs, e, hN, hx⟩ := h σ H c
  exact ⟨.ref N, e, N, xs, _, _, rfl, rfl, SqL.of hN, atI_nat hx, q H _ (Same.refl _) (.str x)⟩
theorem lst_read {C : CT} {t : TA} {ds : List PyData} (ht : MkA C t ds) (hl : ds.length ≤ 1000) (σ : L2.St) (H : Hp) (Q : VK) (c : C σ H) (q : ∀ H' F xs, Same H H' → H' F = some (.lst xs) → TDs H' xs ds → H F = none → Q (.ref F) H') : tLst t σ H Q :=
  ht σ H _ c fun H1 vs s1 tds => ⟨by rw [tds.len]; exact line1000 hl, fun p np => q _ p vs (Same.trans s1 (Same.up np)) upd_same (TDs.ch (Ch.same (S := []) (Same.up np)) _ _ tds) (by
    cases e : H p with
    | none => rfl
    | some o => rw [s1 _ _ e] at np; cases np)⟩
/-- a written list of data, the data by what was drawn -/
def tMkL {α : Type} (D : α → CT × List PyData) : TE := fun σ H Q => ∃ a, (D a).1 σ H ∧ ∀ H' F xs, Same H H' → H' F = some (.lst xs) → TDs H' xs (D a).2 → H F = none → Q (.ref F) H'
theorem pe_mkL {X : Cx} {es : List Expr} {t : TA} {pos : Pos} {α : Type} (D : α → CT × List PyData) (h : PA X es t) (m : ∀ a, MkA (D a).1 t (D a).2) (hl : ∀ a, (D a).2.length ≤ 1000) : PE X (.List es pos) (tMkL D) :=
  ⟨fun pins s σ H Q I ⟨a, c, q⟩ => (pe_lst h).run pins s σ H Q I (lst_read (m a) (hl a) σ H Q c q)⟩
/-- a written tuple -/
def tMkT {α : Type} (D : α → CT × PyData) : TE := fun σ H Q => ∃ a, (D a).1 σ H ∧ ∀ H' v, Same H H' → TD H' v (D a).2 → Q v H'
theorem pe_mkT {X : Cx} {e : Expr} {te : TE} {α : Type} (D : α → CT × PyData) (h : PE X e te) (m : ∀ a, MkE (D a).1 te (D a).2) : PE X e (tMkT D) :=
  ⟨fun pins s σ H Q I ⟨a, c, q⟩ => h.run pins s σ H Q I (m a σ H Q c q)⟩
/-! ### what is known where it is written -/
end G

set_option Elab.async false
set_option linter.all false
set_option maxRecDepth 100000
set_option maxHeartbeats 4000000
/-! _law_any_test, _law_row. -/
namespace G
open PySem PySem.Spec PyProof.Rows L2
theorem lt_line {n : Nat} (h : n < 1000010) : n < sizeLine := by rw [sizeLine_eq]; omega
theorem ps_weak {X : Cx} {st : Stmt} {t tw : TS} (h : PS X st t) (w : ∀ D σ H, tw D σ H → t D σ H) : PS X st tw := ⟨fun pins s σ H D I q => h.run pins s σ H D I (w D σ H q)⟩
theorem one_nm {K : PySem.W.Frag} {H2 : Hp} {D L A : Addr} {m : Nat} {ys : List Str} (d : Deck H2 D L m) (hm : m < 10 ^ 12) (g : H2 A = some (.lst (ys.map V.str))) (na : A ∉ [D, L]) (l0 : 0 < ys.length) (l1 : ys.length ≤ 5) (hn : ∀ x ∈ ys, Nm x) {Q' : VK} (h : ∀ H' x, Kp [D, L] H2 H' → Deck H' D L (m + 1) → Nm x → Q' (.str x) H') : spOne K [.ref D, .ref A] H2 Q' E0 := by
  refine ⟨D, L, m, _, rfl, d, hm, .inl ⟨A, _, rfl, .inl ⟨SqL.of g, na⟩, by rw [List.length_map]; exact l0, by rw [List.length_map]; omega, fun H' y k' d' hy => ?_⟩⟩
  obtain ⟨x, hx, rfl⟩ := List.mem_map.mp hy
  exact h H' x k' d' (hn x hx)
/-- one of a list of data -/
theorem one_td {K : PySem.W.Frag} {H2 : Hp} {D L A : Addr} {m : Nat} {xs : List V} {ds : List PyData} (d : Deck H2 D L m) (hm : m < 10 ^ 12) (g : H2 A = some (.lst xs)) (td : TDs H2 xs ds) (na : A ∉ [D, L]) (l0 : 0 < ds.length) (l1 : ds.length ≤ 1000) {Q' : VK} (h : ∀ H' y e, Kp [D, L] H2 H' → Deck H' D L (m + 1) → TD H' y e → e ∈ ds → Q' y H') : spOne K [.ref D, .ref A] H2 Q' E0 := by
  refine ⟨D, L, m, _, rfl, d, hm, .inl ⟨A, _, rfl, .inl ⟨SqL.of g, na⟩, by rw [td.len]; exact l0, by rw [td.len]; exact l1, fun H' y k' d' hy => ?_⟩⟩
  obtain ⟨e, he, t⟩ := (TDs.ch (deck_ch d d' k') _ _ td).mem y hy
  exact h H' y e k' d' t he
def CXn (l : List (Nat × Str)) : CT := fun σ _ => ∀ q ∈ l, σ[q.1]? = some (some (.str q.2))
theorem CXn.st {l : List (Nat × Str)} : Stable (CXn l) := fun _ _ _ _ h => h
theorem CXn.v {l : List (Nat × Str)} {i : Nat} {x : Str} (h : (i, x) ∈ l) : ∀ σ H, CXn l σ H → ∃ v, σ[i]? = some (some v) ∧ TD H v (.str x) := fun σ H c => ⟨_, c _ h, .str x⟩
section
variable {P : Program} {w : World} {K : PySem.W.Frag} {mg : Str → Option Value} {base : Heap}
abbrev s__law_any_test : Stmt := top 15
abbrev n__law_any_test : List Str := ["_law_deck_here", "_law_pool_here", "_law_x", "_law_y", "_law_word_here", "_law_some", "_law_test", "_law_k"]
theorem sc__law_any_test : FnScope n__law_any_test ["_law_deck_here", "_law_pool_here"] (defScope s__law_any_test) := ⟨rfl, rfl, rfl, by decide +kernel, rfl, by decide +kernel, by decide +kernel⟩
def t4 (z : Str × Str × Str) : List Tst := [.set z.1, .same z.1 z.2.1, .full z.1 z.2.1, .wished z.2.2]
def twGiven : TS := fun Dn σ H => ∃ (D L a F : Addr) (n : Nat) (g : Int) (xs : List V) (ts : List Tst), σ[0]? = some (some (.ref D)) ∧ σ[1]? = some (some (.ref a)) ∧ σ[5]? = some (some (.ref F)) ∧ Deck H D L n ∧ n < 10 ^ 11 + 100 ∧ Pool H D L a g ∧ H F = some (.lst xs) ∧ TDs H xs (ts.map Tst.data) ∧ (∀ t ∈ ts, t.nm ∧ t.depth = 0) ∧ ts.length = 4 ∧ F ∉ [D, L] ∧
  ∀ (H' : Hp) (xs' : List V) (ts' : List Tst), Ch [D, L, F] H H' → Deck H' D L (n + 1) → H' F = some (.lst xs') → TDs H' xs' (ts'.map Tst.data) → (∀ t ∈ ts', t.nm ∧ t.depth = 0) → (4 ≤ ts'.length ∧ ts'.length ≤ 5) → Dn.nx σ H'
def spTest : Sp := fun vs H Q _ => ∃ (D L a : Addr) (n : Nat) (g : Int), vs = [.ref D, .ref a] ∧ Deck H D L n ∧ n < 10 ^ 11 ∧ Pool H D L a g ∧ ∀ (H' : Hp) (v : V) (t : Tst), Kp [D, L] H H' → Deck H' D L (n + 10) → TD H' v t.data → t.ok → Q v H'
theorem ok_any_test {f f1 f2 : Addr} {fd fd1 fd2 : FuncData} (F : Fun K "_law_any_test" "_law_any_test" s__law_any_test f fd) (T : Bi mg)
    (D1 : Df K mg "_law_draw" s__law_draw ["_law_deck_here", "_law_many"] f1 fd1) (G1 : FnOk P w K mg base CX0 1 f1 fd1 ["_law_deck_here", "_law_many"] spDraw)
    (D2 : Df K mg "_law_one" s__law_one ["_law_deck_here", "_law_items"] f2 fd2) (G2 : FnOk P w K mg base CX0 2 f2 fd2 ["_law_deck_here", "_law_items"] (spOne K)) : FnOk P w K mg base CX0 3 f fd ["_law_deck_here", "_law_pool_here"] spTest := by
  refine F.ok sc__law_any_test (fun vs H Q E ⟨D, L, a, n, g, ev, _⟩ => by rw [ev]; rfl) (fun cdv A outer s H vs Q E hr ⟨D, L, a, n, g, ev, hD, hn, hp, q⟩ => ?_)
  subst ev
  have hr1 : Room 1 _ := hr.mono (by decide)
  refine ⟨_, (pss_cons (ps_par3 (i := 2) (j := 3) (l := 4) (by rfl) sc__law_any_test.nd rfl rfl rfl (by decide) (by decide) (by decide) rfl rfl rfl (pa_cons (pe_call G2 hr (by rfl) D2.m D2.F.kp D2.b .nil pass0 (pa_cons (pv 0) (pa_cons (pe_ix ix_list (pv 1) pe_int (fun _ _ => rfl)) pa_nil))) (pa_cons (pe_call G2 hr (by rfl) D2.m D2.F.kp D2.b .nil pass0 (pa_cons (pv 0) (pa_cons (pe_ix ix_list (pv 1) pe_int (fun _ _ => rfl)) pa_nil))) (pa_cons (pe_call G2 hr (by rfl) D2.m D2.F.kp D2.b .nil pass0 (pa_cons (pv 0) (pa_cons (pe_ix ix_list (pv 1) pe_int (fun _ _ => rfl)) pa_nil))) pa_nil))) (by rfl))
      (pss_cons (ps_set (i := 5) sc__law_any_test.nd rfl (.inl rfl) (pe_mkL (fun (z : Str × Str × Str) => (CXn [(2, z.1), (3, z.2.1), (4, z.2.2)], (t4 z).map Tst.data)) (pa_cons (pe_tup (pa_cons pe_str (pa_cons (pv 2) pa_nil))) (pa_cons (pe_tup (pa_cons pe_str (pa_cons (pv 2) (pa_cons (pv 3) pa_nil)))) (pa_cons (pe_tup (pa_cons pe_str (pa_cons (pv 2) (pa_cons (pv 3) pa_nil)))) (pa_cons (pe_tup (pa_cons pe_str (pa_cons (pv 4) pa_nil))) pa_nil))))
        (fun z => mkA_cons CXn.st (mk_tup (mkA_cons CXn.st (mk_str _) (mkA_cons CXn.st (mk_var (CXn.v (x := z.1) (by simp))) mkA_nil)) (Nat.le_of_ble_eq_true rfl)) (mkA_cons CXn.st (mk_tup (mkA_cons CXn.st (mk_str _) (mkA_cons CXn.st (mk_var (CXn.v (x := z.1) (by simp))) (mkA_cons CXn.st (mk_var (CXn.v (x := z.2.1) (by simp))) mkA_nil))) (Nat.le_of_ble_eq_true rfl)) (mkA_cons CXn.st (mk_tup (mkA_cons CXn.st (mk_str _) (mkA_cons CXn.st (mk_var (CXn.v (x := z.1) (by simp))) (mkA_cons CXn.st (mk_var (CXn.v (x := z.2.1) (by simp))) mkA_nil))) (Nat.le_of_ble_eq_true rfl)) (mkA_cons CXn.st (mk_tup (mkA_cons CXn.st (mk_str _) (mkA_cons CXn.st (mk_var (CXn.v (x := z.2.2) (by simp))) mkA_nil)) (Nat.le_of_ble_eq_true rfl)) mkA_nil)))) (fun _ => Nat.le_of_ble_eq_true rfl)))
      (pss_cons (ps_weak (tw := twGiven) (ps_if (pt_cmpR op_gt (pe_ix ix_list (pv 1) pe_int (fun _ _ => rfl)) pe_int (nomark _))
      (pss_one (ps_expr (pe_bm PySem.F.plainAttrs_list PySem.F.slot_list_append PySem.F.type_list_append mt_append (pv 5) (pa_cons (pe_tup (pa_cons pe_str (pa_cons (pe_call G1 hr1 (by rfl) D1.m D1.F.kp D1.b .nil pass0 (pa_cons (pv 0) (pa_cons (pe_ix ix_list (pv 1) pe_int (fun _ _ => rfl)) pa_nil))) pa_nil))) pa_nil))))
      pss_nil) (fun Dn σ H ⟨D, L, a, Fl, n, g, xs, ts, e0, e1, e5, hD, hn, hp, gF, td, ht, lt, nF, q⟩ => by
        obtain ⟨N, Wd, ns, ws, ga, gN, gW, hN, hW, lN, lW, ⟨g0, g4⟩, na, neN, neW⟩ := id hp
        refine ⟨_, e1, a, _, _, _, rfl, rfl, SqL.of ga, atI_nat (j := 2) rfl, _, _, rfl, rfl, _, rfl, ite2 (fun h => ?_) (fun _ => ?_)⟩
        · have h : 0 < g := of_decide_eq_true h
          refine ⟨_, e5, .inl ⟨rfl, _, SqL.of gF⟩, _, e0, _, e1, a, _, _, _, rfl, rfl, SqL.of ga, atI_nat (j := 2) rfl, D, L, n, g, rfl, hD, by omega, by omega, by omega, fun H1 r k1 hD1 r0 r1 => ⟨line1000 (Nat.le_of_ble_eq_true rfl), fun t nt => ?_⟩⟩
          have c1 := deck_ch hD hD1 k1
          have gF1 := k1 _ _ nF gF
          have sT := Same.up (o := HO.tup [V.str "given", V.int r]) nt
          have net : t ≠ Fl := fun z => by rw [z, gF1] at nt; cases nt
          have lx : xs.length = 4 := by rw [td.len, List.length_map]; exact lt
          have c2 : Ch [Fl] (upd H1 t (.tup [.str "given", .int r])) (upd (upd H1 t (.tup [.str "given", .int r])) Fl (.lst (xs ++ [.ref t]))) := (Ch.refl _ _).put (by simp) (sT _ _ gF1) (fun xs z => by cases z)
          have c3 : Ch [D, L, Fl] H (upd (upd H1 t (.tup [.str "given", .int r])) Fl (.lst (xs ++ [.ref t]))) := (c1.mono (fun b hb => by simp at hb; rcases hb with rfl | rfl <;> simp)).trans ((Ch.same sT).trans (c2.mono (fun b hb => by simp at hb; simp [hb])))
          have neF : D ∉ [Fl] ∧ L ∉ [Fl] := by simp at nF ⊢; exact ⟨Ne.symm nF.1, Ne.symm nF.2⟩
          refine ⟨Fl, _, _, rfl, rfl, sT _ _ gF1, lt_line (by omega), q _ _ (ts ++ [.given r.toNat]) c3 ((hD1.kp (Kp.same (S := []) sT) (fun z => nomatch z) (fun z => nomatch z)).kp c2.kp neF.1 neF.2) upd_same ?_ (fun t ht' => ?_) (by rw [List.length_append]; show 4 ≤ ts.length + 1 ∧ ts.length + 1 ≤ 5; omega)⟩
          · rw [List.map_append]
            refine (TDs.ch c3 _ _ td).snoc (.tup (by rw [upd_ne net, upd_same]) (.cons (.str _) (.cons ?_ .nil)))
            rw [show V.int r = V.int ((r.toNat : Nat) : Int) by rw [Int.toNat_of_nonneg r0]]
            exact .int _
          · rcases List.mem_append.mp ht' with h1 | h1
            · exact ht t h1
            · rw [List.mem_singleton.mp h1]
              exact ⟨by show r.toNat < 4; omega, rfl⟩
        · exact q H xs ts (Ch.refl _ _) (hD.mono (by omega)) gF td ht (by omega)))
      (pss_cons (ps_set (i := 6) sc__law_any_test.nd rfl (.inl rfl) (pe_call G2 hr (by rfl) D2.m D2.F.kp D2.b .nil pass0 (pa_cons (pv 0) (pa_cons (pv 5) pa_nil))))
      (pss_cons (ps_for PassesOwn.never rfl (pi_range1 (by rfl) T.z_range (pa_cons (pe_call G2 hr (by rfl) D2.m D2.F.kp D2.b .nil pass0 (pa_cons (pv 0) (pa_cons (pe_lst (pa_cons pe_int (pa_cons pe_int (pa_cons pe_int (pa_cons pe_int (pa_cons pe_int pa_nil)))))) pa_nil))) pa_nil)) (pg_name (i := 7) sc__law_any_test.nd rfl (.inl rfl))
      (pss_one (ps_set (i := 6) sc__law_any_test.nd rfl (.inl rfl) (pe_tup (pa_cons pe_str (pa_cons (pv 6) pa_nil))))))
      (pss_one (ps_ret (pv 6)))))))), ?_⟩
  obtain ⟨N, Wd, ns, ws, ga, gN, gW, hN, hW, lN, lW, ⟨g0, g4⟩, na, neN, neW⟩ := id hp
  refine ⟨.ref D, rfl, _, rfl, a, _, _, _, rfl, rfl, SqL.of ga, atI_nat (j := 0) rfl, one_nm hD (by omega) gN neN lN.1 lN.2 hN fun H1 x k1 hD1 hx => ?_⟩
  refine ⟨.ref D, rfl, _, rfl, a, _, _, _, rfl, rfl, SqL.of (k1 _ _ na ga), atI_nat (j := 0) rfl, one_nm hD1 (by omega) (k1 _ _ neN gN) neN lN.1 lN.2 hN fun H2 y k2 hD2 hy => ?_⟩
  have k02 := k1.trans k2
  refine ⟨.ref D, rfl, _, rfl, a, _, _, _, rfl, rfl, SqL.of (k02 _ _ na ga), atI_nat (j := 1) rfl, one_nm hD2 (by omega) (k02 _ _ neW gW) neW lW.1 lW.2 hW fun H3 wd k3 hD3 hw => ?_⟩
  have k03 := k02.trans k3
  refine ⟨_, _, _, rfl, (x, y, wd), (fun q hq => by simp at hq; rcases hq with rfl | rfl | rfl <;> rfl), fun H4 Fl xs s4 gF td nF => ?_⟩
  have hD4 := hD3.kp (Kp.same (S := []) s4) (fun z => nomatch z) (fun z => nomatch z)
  have k04 := k03.trans (Kp.same s4)
  have nF' : Fl ∉ [D, L] := by simpa using hD3.neD nF
  have nF0 : H Fl = none := k03.none_of nF nF'
  refine ⟨D, L, a, Fl, n + 3, g, xs, t4 (x, y, wd), rfl, rfl, rfl, hD4, by omega, hp.kp k04, gF, td, (fun t ht => by
    simp [t4] at ht
    rcases ht with rfl | rfl | rfl | rfl
    · exact ⟨hx, rfl⟩
    · exact ⟨⟨hx, hy⟩, rfl⟩
    · exact ⟨⟨hx, hy⟩, rfl⟩
    · exact ⟨hw, rfl⟩), rfl, nF', fun H5 xs5 ts5 c5 hD5 gF5 td5 ht5 lt5 => ?_⟩
  have k05 : Kp [D, L] H H5 := ((k04.mono (T := [Fl, D, L]) (fun b hb => List.mem_cons_of_mem _ hb)).trans (c5.kp.mono (fun b hb => by simp at hb ⊢; rcases hb with rfl | rfl | rfl <;> simp))).fresh nF0
  refine ⟨.ref D, rfl, _, rfl, one_td hD5 (by omega) gF5 td5 nF' (by rw [List.length_map]; omega) (by rw [List.length_map]; omega) fun H6 v e k6 hD6 tdv he => ?_⟩
  obtain ⟨t, ht, rfl⟩ := List.mem_map.mp he
  obtain ⟨tn, t0⟩ := ht5 t ht
  refine ⟨.ref D, rfl, line1000 (Nat.le_of_ble_eq_true rfl), fun l nl => ?_⟩
  have hl : l ∉ [D, L] := by simpa using hD6.neD nl
  have s7 := Same.up (o := HO.lst [V.int 0, V.int 0, V.int 1, V.int 2, V.int 3]) nl
  have hD7 := hD6.kp (Kp.same (S := []) s7) (fun z => nomatch z) (fun z => nomatch z)
  refine ⟨D, L, _, .ref l, rfl, hD7, by omega, .inl ⟨l, _, rfl, .inl ⟨SqL.of upd_same, hl⟩, Nat.le_of_ble_eq_true rfl, Nat.le_of_ble_eq_true rfl, fun H8 y8 k8 hD8 hy8 => ?_⟩⟩
  obtain ⟨m, rfl, m0, m3⟩ : ∃ m : Int, y8 = .int m ∧ 0 ≤ m ∧ m ≤ 3 := by
    simp only [List.mem_cons, List.not_mem_nil, or_false] at hy8
    rcases hy8 with rfl | rfl | rfl | rfl | rfl
    · exact ⟨0, rfl, by decide, by decide⟩
    · exact ⟨0, rfl, by decide, by decide⟩
    · exact ⟨1, rfl, by decide, by decide⟩
    · exact ⟨2, rfl, by decide, by decide⟩
    · exact ⟨3, rfl, by decide, by decide⟩
  have tdv8 := TD.ch ((Ch.same s7).trans (deck_ch hD7 hD8 k8)) _ _ tdv
  have k08 : Kp [D, L] H H8 := k05.trans (k6.trans ((Kp.same s7).trans k8))
  refine ⟨m, rfl, by omega, by omega, for_range (lo := 0) (n := m.toNat) (fun i σ H' => Same H8 H' ∧ ∃ (v : V) (t : Tst) (x7 : Option V), TD H' v t.data ∧ t.nm ∧ t.depth ≤ i ∧ σ = [some (.ref D), some (.ref a), some (.str x), some (.str y), some (.str wd), some (.ref Fl), some v, x7])
    ⟨Same.refl _, v, t, _, tdv8, tn, by omega, rfl⟩ ?_ ?_⟩
  · rintro i σ H' hi ⟨s9, v', t', x7, td', tn', td0, rfl⟩
    refine ⟨_, rfl, line1000 (Nat.le_of_ble_eq_true rfl), fun p np => ⟨Same.trans s9 (Same.up np), _, .not t', _, .tup upd_same (.cons (.str _) (.cons (TD.ch (Ch.same (S := []) (Same.up np)) _ _ td') .nil)), tn', by show t'.depth + 1 ≤ i + 1; omega, rfl⟩⟩
  · rintro σ H' ⟨s9, v', t', x7, td', tn', td0, rfl⟩
    exact ⟨_, rfl, q H' v' t' (k08.trans (Kp.same s9)) ((hD8.kp (Kp.same (S := []) s9) (fun z => nomatch z) (fun z => nomatch z)).mono (by omega)) td' ⟨tn', by omega⟩⟩
end
end G

set_option Elab.async false
set_option linter.all false
set_option maxRecDepth 100000
set_option maxHeartbeats 4000000
/-! _law_row. Written by mkU3.py. -/
namespace G
open PySem PySem.Spec PyProof.Rows L2
section
variable {P : Program} {w : World} {K : PySem.W.Frag} {mg : Str → Option Value} {base : Heap}
abbrev s__law_row : Stmt := top 16
abbrev n__law_row : List Str := ["_law_deck_here", "_law_pool_here", "_law_x", "_law_y", "_law_z", "_law_f", "_law_word_here", "_law_some"]
theorem sc__law_row : FnScope n__law_row ["_law_deck_here", "_law_pool_here"] (defScope s__law_row) := ⟨rfl, rfl, rfl, by decide +kernel, rfl, by decide +kernel, by decide +kernel⟩
def l6 (z : Str × Str × Str × Str × Str) : List Act := [.make z.1, .keep z.1, .drop z.1, .wish z.1 z.2.2.2.2, .name z.1 z.2.1, .hold z.1 z.2.2.2.1 z.2.1]
def l4 (z : Str × Str × Str × Str × Str) : List Act := [.weak z.1 z.2.2.2.1 z.2.1, .cut z.1 z.2.2.2.1, .take z.2.2.1 z.1 z.2.2.2.1, .say z.2.2.2.2]
def spRow : Sp := fun vs H Q _ => ∃ (D L a : Addr) (n : Nat) (g : Int), vs = [.ref D, .ref a] ∧ Deck H D L n ∧ n < 10 ^ 11 - 10 ∧ Pool H D L a g ∧ ∀ (H' : Hp) (v : V) (b : Act), Kp [D, L] H H' → Deck H' D L (n + 20) → TD H' v b.data → b.nm → Q v H'
theorem ok_row {f f2 f3 : Addr} {fd fd2 fd3 : FuncData} (F : Fun K "_law_row" "_law_row" s__law_row f fd)
    (D2 : Df K mg "_law_one" s__law_one ["_law_deck_here", "_law_items"] f2 fd2) (G2 : FnOk P w K mg base CX0 2 f2 fd2 ["_law_deck_here", "_law_items"] (spOne K))
    (D3 : Df K mg "_law_any_test" s__law_any_test ["_law_deck_here", "_law_pool_here"] f3 fd3) (G3 : FnOk P w K mg base CX0 3 f3 fd3 ["_law_deck_here", "_law_pool_here"] spTest) : FnOk P w K mg base CX0 4 f fd ["_law_deck_here", "_law_pool_here"] spRow := by
  refine F.ok sc__law_row (fun vs H Q E ⟨D, L, a, n, g, ev, _⟩ => by rw [ev]; rfl) (fun cdv A outer s H vs Q E hr ⟨D, L, a, n, g, ev, hD, hn, hp, q⟩ => ?_)
  subst ev
  have hr2 : Room 2 _ := hr.mono (by decide)
  refine ⟨_, (pss_cons (ps_par3 (i := 2) (j := 3) (l := 4) (by rfl) sc__law_row.nd rfl rfl rfl (by decide) (by decide) (by decide) rfl rfl rfl (pa_cons (pe_call G2 hr2 (by rfl) D2.m D2.F.kp D2.b .nil pass0 (pa_cons (pv 0) (pa_cons (pe_ix ix_list (pv 1) pe_int (fun _ _ => rfl)) pa_nil))) (pa_cons (pe_call G2 hr2 (by rfl) D2.m D2.F.kp D2.b .nil pass0 (pa_cons (pv 0) (pa_cons (pe_ix ix_list (pv 1) pe_int (fun _ _ => rfl)) pa_nil))) (pa_cons (pe_call G2 hr2 (by rfl) D2.m D2.F.kp D2.b .nil pass0 (pa_cons (pv 0) (pa_cons (pe_ix ix_list (pv 1) pe_int (fun _ _ => rfl)) pa_nil))) pa_nil))) (by rfl))
      (pss_cons (ps_par (i := 5) (j := 6) (by rfl) sc__law_row.nd rfl rfl (by decide) rfl rfl (pa_cons (pe_call G2 hr2 (by rfl) D2.m D2.F.kp D2.b .nil pass0 (pa_cons (pv 0) (pa_cons (pe_ix ix_list (pv 1) pe_int (fun _ _ => rfl)) pa_nil))) (pa_cons (pe_call G2 hr2 (by rfl) D2.m D2.F.kp D2.b .nil pass0 (pa_cons (pv 0) (pa_cons (pe_ix ix_list (pv 1) pe_int (fun _ _ => rfl)) pa_nil))) pa_nil)) (by rfl))
      (pss_cons (ps_set (i := 7) sc__law_row.nd rfl (.inl rfl) (pe_mkL (fun (z : Str × Str × Str × Str × Str) => (CXn [(2, z.1), (3, z.2.1), (4, z.2.2.1), (5, z.2.2.2.1), (6, z.2.2.2.2)], (l6 z).map Act.data)) (pa_cons (pe_tup (pa_cons pe_str (pa_cons (pv 2) pa_nil))) (pa_cons (pe_tup (pa_cons pe_str (pa_cons (pv 2) pa_nil))) (pa_cons (pe_tup (pa_cons pe_str (pa_cons (pv 2) pa_nil))) (pa_cons (pe_tup (pa_cons pe_str (pa_cons (pv 2) (pa_cons (pv 6) pa_nil)))) (pa_cons (pe_tup (pa_cons pe_str (pa_cons (pv 2) (pa_cons (pv 3) pa_nil)))) (pa_cons (pe_tup (pa_cons pe_str (pa_cons (pv 2) (pa_cons (pv 5) (pa_cons (pv 3) pa_nil))))) pa_nil)))))) (fun z => (mkA_cons CXn.st (mk_tup (mkA_cons CXn.st (mk_str _) (mkA_cons CXn.st (mk_var (CXn.v (i := 2) (x := z.1) (by simp))) mkA_nil)) (Nat.le_of_ble_eq_true rfl)) (mkA_cons CXn.st (mk_tup (mkA_cons CXn.st (mk_str _) (mkA_cons CXn.st (mk_var (CXn.v (i := 2) (x := z.1) (by simp))) mkA_nil)) (Nat.le_of_ble_eq_true rfl)) (mkA_cons CXn.st (mk_tup (mkA_cons CXn.st (mk_str _) (mkA_cons CXn.st (mk_var (CXn.v (i := 2) (x := z.1) (by simp))) mkA_nil)) (Nat.le_of_ble_eq_true rfl)) (mkA_cons CXn.st (mk_tup (mkA_cons CXn.st (mk_str _) (mkA_cons CXn.st (mk_var (CXn.v (i := 2) (x := z.1) (by simp))) (mkA_cons CXn.st (mk_var (CXn.v (i := 6) (x := z.2.2.2.2) (by simp))) mkA_nil))) (Nat.le_of_ble_eq_true rfl)) (mkA_cons CXn.st (mk_tup (mkA_cons CXn.st (mk_str _) (mkA_cons CXn.st (mk_var (CXn.v (i := 2) (x := z.1) (by simp))) (mkA_cons CXn.st (mk_var (CXn.v (i := 3) (x := z.2.1) (by simp))) mkA_nil))) (Nat.le_of_ble_eq_true rfl)) (mkA_cons CXn.st (mk_tup (mkA_cons CXn.st (mk_str _) (mkA_cons CXn.st (mk_var (CXn.v (i := 2) (x := z.1) (by simp))) (mkA_cons CXn.st (mk_var (CXn.v (i := 5) (x := z.2.2.2.1) (by simp))) (mkA_cons CXn.st (mk_var (CXn.v (i := 3) (x := z.2.1) (by simp))) mkA_nil)))) (Nat.le_of_ble_eq_true rfl)) mkA_nil))))))) (fun _ => Nat.le_of_ble_eq_true rfl)))
      (pss_cons (ps_set (i := 7) sc__law_row.nd rfl (.inl rfl) (pe_op op_cat (pv 7) (pe_mkL (fun (z : Str × Str × Str × Str × Str) => (CXn [(2, z.1), (3, z.2.1), (4, z.2.2.1), (5, z.2.2.2.1), (6, z.2.2.2.2)], (l4 z).map Act.data)) (pa_cons (pe_tup (pa_cons pe_str (pa_cons (pv 2) (pa_cons (pv 5) (pa_cons (pv 3) pa_nil))))) (pa_cons (pe_tup (pa_cons pe_str (pa_cons (pv 2) (pa_cons (pv 5) pa_nil)))) (pa_cons (pe_tup (pa_cons pe_str (pa_cons (pv 4) (pa_cons (pv 2) (pa_cons (pv 5) pa_nil))))) (pa_cons (pe_tup (pa_cons pe_str (pa_cons (pv 6) pa_nil))) pa_nil)))) (fun z => (mkA_cons CXn.st (mk_tup (mkA_cons CXn.st (mk_str _) (mkA_cons CXn.st (mk_var (CXn.v (i := 2) (x := z.1) (by simp))) (mkA_cons CXn.st (mk_var (CXn.v (i := 5) (x := z.2.2.2.1) (by simp))) (mkA_cons CXn.st (mk_var (CXn.v (i := 3) (x := z.2.1) (by simp))) mkA_nil)))) (Nat.le_of_ble_eq_true rfl)) (mkA_cons CXn.st (mk_tup (mkA_cons CXn.st (mk_str _) (mkA_cons CXn.st (mk_var (CXn.v (i := 2) (x := z.1) (by simp))) (mkA_cons CXn.st (mk_var (CXn.v (i := 5) (x := z.2.2.2.1) (by simp))) mkA_nil))) (Nat.le_of_ble_eq_true rfl)) (mkA_cons CXn.st (mk_tup (mkA_cons CXn.st (mk_str _) (mkA_cons CXn.st (mk_var (CXn.v (i := 4) (x := z.2.2.1) (by simp))) (mkA_cons CXn.st (mk_var (CXn.v (i := 2) (x := z.1) (by simp))) (mkA_cons CXn.st (mk_var (CXn.v (i := 5) (x := z.2.2.2.1) (by simp))) mkA_nil)))) (Nat.le_of_ble_eq_true rfl)) (mkA_cons CXn.st (mk_tup (mkA_cons CXn.st (mk_str _) (mkA_cons CXn.st (mk_var (CXn.v (i := 6) (x := z.2.2.2.2) (by simp))) mkA_nil)) (Nat.le_of_ble_eq_true rfl)) mkA_nil))))) (fun _ => Nat.le_of_ble_eq_true rfl))))
      (pss_one (ps_ret (pe_call G2 hr2 (by rfl) D2.m D2.F.kp D2.b .nil pass0 (pa_cons (pv 0) (pa_cons (pe_op op_cat (pv 7) (pe_lst (pa_cons (pe_tup (pa_cons pe_str (pa_cons (pe_call G3 hr (by rfl) D3.m D3.F.kp D3.b .nil pass0 (pa_cons (pv 0) (pa_cons (pv 1) pa_nil))) pa_nil))) pa_nil))) pa_nil))))))))), ?_⟩
  obtain ⟨N, Wd, ns, ws, ga, gN, gW, hN, hW, lN, lW, ⟨g0, g4⟩, na, neN, neW⟩ := id hp
  refine ⟨.ref D, rfl, _, rfl, a, _, _, _, rfl, rfl, SqL.of ga, atI_nat (j := 0) rfl, one_nm hD (by omega) gN neN lN.1 lN.2 hN fun H1 x k1 hD1 hx => ?_⟩
  refine ⟨.ref D, rfl, _, rfl, a, _, _, _, rfl, rfl, SqL.of (k1 _ _ na ga), atI_nat (j := 0) rfl, one_nm hD1 (by omega) (k1 _ _ neN gN) neN lN.1 lN.2 hN fun H2 y k2 hD2 hy => ?_⟩
  have k02 := k1.trans k2
  refine ⟨.ref D, rfl, _, rfl, a, _, _, _, rfl, rfl, SqL.of (k02 _ _ na ga), atI_nat (j := 0) rfl, one_nm hD2 (by omega) (k02 _ _ neN gN) neN lN.1 lN.2 hN fun H3 z k3 hD3 hz => ?_⟩
  have k03 := k02.trans k3
  refine ⟨_, _, _, rfl, ?_⟩
  refine ⟨.ref D, rfl, _, rfl, a, _, _, _, rfl, rfl, SqL.of (k03 _ _ na ga), atI_nat (j := 0) rfl, one_nm hD3 (by omega) (k03 _ _ neN gN) neN lN.1 lN.2 hN fun H4 fl k4 hD4 hf => ?_⟩
  have k04 := k03.trans k4
  refine ⟨.ref D, rfl, _, rfl, a, _, _, _, rfl, rfl, SqL.of (k04 _ _ na ga), atI_nat (j := 1) rfl, one_nm hD4 (by omega) (k04 _ _ neW gW) neW lW.1 lW.2 hW fun H5 wd k5 hD5 hw => ?_⟩
  have k05 := k04.trans k5
  have ctx : ∀ {σ : L2.St} {x2 x3 x4 x5 x6 : Str}, σ[2]? = some (some (.str x2)) → σ[3]? = some (some (.str x3)) → σ[4]? = some (some (.str x4)) → σ[5]? = some (some (.str x5)) → σ[6]? = some (some (.str x6)) → ∀ q ∈ [(2, x2), (3, x3), (4, x4), (5, x5), (6, x6)], σ[q.1]? = some (some (.str q.2)) := fun e2 e3 e4 e5 e6 q hq => by
    simp at hq
    rcases hq with rfl | rfl | rfl | rfl | rfl
    · exact e2
    · exact e3
    · exact e4
    · exact e5
    · exact e6
  refine ⟨_, _, rfl, (x, y, z, fl, wd), ctx rfl rfl rfl rfl rfl, fun H6 F1 xs s6 g6 td6 nF1 => ?_⟩
  refine ⟨_, rfl, (x, y, z, fl, wd), ctx rfl rfl rfl rfl rfl, fun H7 F2 xs2 s7 g7 td7 nF2 => ?_⟩
  have l6' : xs.length = 6 := by rw [td6.len, List.length_map]; rfl
  have l4' : xs2.length = 4 := by rw [td7.len, List.length_map]; rfl
  refine ⟨F1, F2, _, _, rfl, rfl, s7 _ _ g6, g7, Nat.le_of_lt (lt_line (by omega)), fun F3 nF3 => ?_⟩
  have s8 := Same.up (o := HO.lst (xs ++ xs2)) nF3
  have g8 : upd H7 F3 (HO.lst (xs ++ xs2)) F3 = some (.lst (xs ++ xs2)) := upd_same
  have s58 := Same.trans s6 (Same.trans s7 s8)
  have td8 : TDs (upd H7 F3 (HO.lst (xs ++ xs2))) (xs ++ xs2) ((l6 (x, y, z, fl, wd) ++ l4 (x, y, z, fl, wd)).map Act.data) := by
    rw [List.map_append]
    exact (TDs.ch (Ch.same (S := []) (Same.trans s7 s8)) _ _ td6).append (TDs.ch (Ch.same (S := []) s8) _ _ td7)
  have hD8 := hD5.kp (Kp.same (S := []) s58) (fun z => nomatch z) (fun z => nomatch z)
  have nF3' : F3 ∉ [D, L] := by simpa using (hD5.kp (Kp.same (S := []) (Same.trans s6 s7)) (fun z => nomatch z) (fun z => nomatch z)).neD nF3
  generalize upd H7 F3 (HO.lst (xs ++ xs2)) = H8 at s8 g8 s58 td8 hD8 ⊢
  have k08 := k05.trans (Kp.same s58)
  refine ⟨.ref D, rfl, _, rfl, .ref D, rfl, _, rfl, D, L, a, _, g, rfl, hD8, by omega, hp.kp k08, fun H9 v t k9 hD9 tdv tok => ⟨line1000 (Nat.le_of_ble_eq_true rfl), fun t1 n1 => ⟨line1000 (Nat.le_of_ble_eq_true rfl), fun l nl => ?_⟩⟩⟩
  have sA := Same.up (o := HO.tup [V.str "ask", v]) n1
  have sB := Same.up (o := HO.lst [V.ref t1]) nl
  have c9 := deck_ch hD8 hD9 k9
  refine ⟨F3, l, _, _, rfl, rfl, sB _ _ (sA _ _ (k9 _ _ nF3' g8)), upd_same, Nat.le_of_lt (lt_line (by rw [List.length_append, l6', l4']; show 6 + 4 + 1 < _; omega)), fun p np => ?_⟩
  have sC := Same.up (o := HO.lst (xs ++ xs2 ++ [V.ref t1])) np
  have sBC := Same.trans sB sC
  have tdE : TDs (upd (upd (upd H9 t1 (HO.tup [V.str "ask", v])) l (HO.lst [V.ref t1])) p (HO.lst (xs ++ xs2 ++ [V.ref t1]))) (xs ++ xs2 ++ [V.ref t1]) ((l6 (x, y, z, fl, wd) ++ l4 (x, y, z, fl, wd) ++ [Act.ask t]).map Act.data) := by
    rw [List.map_append]
    exact (TDs.ch (c9.trans (Ch.same (Same.trans sA sBC))) _ _ td8).append (.cons (.tup (sBC _ _ upd_same) (.cons (.str _) (.cons (TD.ch (Ch.same (S := []) (Same.trans sA sBC)) _ _ tdv) .nil))) .nil)
  have hDE := hD9.kp (Kp.same (S := []) (Same.trans sA sBC)) (fun z => nomatch z) (fun z => nomatch z)
  have np' : p ∉ [D, L] := by simpa using (hD9.kp (Kp.same (S := []) (Same.trans sA sB)) (fun z => nomatch z) (fun z => nomatch z)).neD np
  refine one_td hDE (by omega) upd_same tdE np' (by rw [List.length_map, List.length_append]; show 0 < _ + 1; omega) (by rw [List.length_map]; exact Nat.le_of_ble_eq_true rfl) fun H10 y10 e k10 hD10 td10 he => ?_
  obtain ⟨b, hb, rfl⟩ := List.mem_map.mp he
  refine q H10 y10 b (k08.trans (k9.trans ((Kp.same (Same.trans sA sBC)).trans k10))) (hD10.mono (by omega)) td10 ?_
  rcases List.mem_append.mp hb with hb | hb
  · rcases List.mem_append.mp hb with hb | hb
    · simp [l6] at hb
      rcases hb with rfl | rfl | rfl | rfl | rfl | rfl
      · exact hx
      · exact hx
      · exact hx
      · exact ⟨hx, hw⟩
      · exact ⟨hx, hy⟩
      · exact ⟨hx, hf, hy⟩
    · simp [l4] at hb
      rcases hb with rfl | rfl | rfl | rfl
      · exact ⟨hx, hf, hy⟩
      · exact ⟨hx, hf⟩
      · exact ⟨hz, hx, hf⟩
      · exact hw
  · rw [List.mem_singleton.mp hb]
    exact tok
end
end G

set_option Elab.async false
set_option linter.all false
set_option maxRecDepth 100000
set_option maxHeartbeats 4000000
/-! _law_rows, _law_inner. -/
namespace G
open PySem PySem.Spec PyProof.Rows L2
theorem pe_cons {X : Cx} {e : Expr} {te tw : TE} (h : PE X e te) (w : ∀ σ H Q, tw σ H Q → te σ H Q) : PE X e tw := ⟨fun pins s σ H Q I q => h.run pins s σ H Q I (w σ H Q q)⟩
def tFalse : TE := fun _ _ _ => False
theorem pe_never {X : Cx} {e : Expr} : PE X e tFalse := ⟨fun _ _ _ _ _ _ h => h.elim⟩
theorem Pool.kpL {H H' : Hp} {D L a Lf : Addr} {g l0 l1 : Int} (p : Pool H D L a g) (gL : H Lf = some (.lst [.int l0, .int l1])) (k : Kp [D, L, Lf] H H') : Pool H' D L a g := by
  obtain ⟨N, Wd, ns, ws, h1, h2, h3, h4, h5, h6, h7, h8, n1, n2, n3⟩ := p
  have e1 : a ≠ Lf := fun z => by rw [z, gL] at h1; cases h1
  have key : ∀ {A : Addr} {l : List Str}, H A = some (.lst (l.map V.str)) → 0 < l.length → A ≠ Lf := fun {A l} h hl z => by
    rw [z, gL] at h
    cases l with
    | nil => exact absurd hl (Nat.lt_irrefl 0)
    | cons x r => cases h
  have e2 := key h2 h6.1
  have e3 := key h3 h7.1
  have up : ∀ {A : Addr}, A ∉ [D, L] → A ≠ Lf → A ∉ [D, L, Lf] := fun {A} h z y => by
    simp at h y
    rcases y with y | y | y
    · exact h.1 y
    · exact h.2 y
    · exact z y
  exact ⟨N, Wd, ns, ws, k _ _ (up n1 e1) h1, k _ _ (up n2 e2) h2, k _ _ (up n3 e3) h3, h4, h5, h6, h7, h8, n1, n2, n3⟩
def cI : Nat → Nat
  | 0 => 0
  | r + 1 => 633 + 60 * cI r
theorem blk_snoc (b : List Sta) (s : Sta) : blkData (b ++ [s]) = blkData b ++ [s.data] := by
  rw [blkData_eq, blkData_eq, List.map_append]
  rfl
/-- a drawn block -/
def spBl (dp : Int) (c d : Nat) : Sp := fun vs H Q _ => ∃ (D L a Lf : Addr) (n : Nat) (g l0 l1 times : Int), vs = [.ref D, .ref a, .ref Lf, .int dp, .int times] ∧ Deck H D L n ∧ n + c < 10 ^ 11 - 100 ∧ Pool H D L a g ∧ H Lf = some (.lst [.int l0, .int l1]) ∧ Lf ∉ [D, L] ∧ (0 ≤ l0 ∧ l0 ≤ 31) ∧ (0 ≤ l1 ∧ l1 ≤ 200) ∧ (0 ≤ times ∧ times ≤ 2400) ∧
  ∀ (H' : Hp) (t : Addr) (blk : List Sta) (l0' l1' : Int), Ch [D, L, Lf] H H' → Deck H' D L (n + c) → H' Lf = some (.lst [.int l0', .int l1']) → TD H' (.ref t) (.tuple (blkData blk)) → (∀ s ∈ blk, StaOk d s) → ((sizeB blk : Nat) : Int) + l0' ≤ l0 → 0 ≤ l0' → (0 ≤ l1' ∧ l1' ≤ 200) → Q (.ref t) H'
def rSubE : R2 := fun x y H Q => ∃ i j, x = .int i ∧ y = .int j ∧ ∀ z, z = i - j → Q (.int z) H
theorem op_subE {X : Cx} : OpR X (binaryOp .Sub) rSubE := by
  intro pins s σ H x y v u Q I rx ry h
  obtain ⟨i, j, rfl, rfl, q⟩ := h
  exact op_sub pins s σ H _ _ v u Q I rx ry ⟨i, j, rfl, rfl, q _ rfl⟩
def twMany : TE := fun σ H Q => ∃ (D L : Addr) (n : Nat) (dp : Int), σ[0]? = some (some (.ref D)) ∧ σ[3]? = some (some (.int dp)) ∧ Deck H D L n ∧ n < 10 ^ 11 ∧ ∀ (H' : Hp) (v : Int), Kp [D, L] H H' → Deck H' D L (n + 2) → 0 ≤ v → v < 31 → Q (.int v) H'
section
variable {P : Program} {w : World} {K : PySem.W.Frag} {mg : Str → Option Value} {base : Heap}
abbrev s__law_inner : Stmt := top 18
abbrev p__law_rows : List Str := ["_law_deck_here", "_law_pool_here", "_law_left", "_law_depth", "_law_times"]
abbrev n__law_inner : List Str := ["_law_deck_here", "_law_pool_here", "_law_left", "_law_depth", "_law_times"]
theorem sc__law_inner : FnScope n__law_inner p__law_rows (defScope s__law_inner) := ⟨rfl, rfl, rfl, by decide +kernel, rfl, by decide +kernel, by decide +kernel⟩
theorem ok_inner0 {f : Addr} {fd : FuncData} (F : Fun K "_law_inner" "_law_inner" s__law_inner f fd) : FnOk P w K mg base CX0 5 f fd p__law_rows (spBl 4 (cI 0) 0) := by
  refine F.ok sc__law_inner (fun vs H Q E ⟨D, L, a, Lf, n, g, l0, l1, times, ev, _⟩ => by rw [ev]; rfl) (fun cdv A outer s H vs Q E hr ⟨D, L, a, Lf, n, g, l0, l1, times, ev, hD, hn, hp, gL, nL, b0, b1, b2, q⟩ => ?_)
  subst ev
  refine ⟨_, (pss_one (ps_ret (pe_ifExp (pt_cmpR op_lt (pv 3) pe_int (nomark _)) pe_never (pe_tup pa_nil)))), ?_⟩
  refine ⟨_, rfl, _, _, rfl, rfl, _, rfl, ite2 (fun h => absurd h (by decide)) (fun _ => ⟨Nat.zero_le _, fun t nt => ?_⟩)⟩
  exact q _ t [] l0 l1 (Ch.same (Same.up nt)) ((hD.kp (Kp.same (S := []) (Same.up nt)) (fun z => nomatch z) (fun z => nomatch z)).mono (by omega)) (Same.up nt _ _ gL) (.tup upd_same .nil) (fun _ z => nomatch z) (by show ((0 : Nat) : Int) + l0 ≤ l0; omega) b0.1 b1
theorem ok_innerS {f fR : Addr} {fd dR : FuncData} {r k : Nat} (hr4 : r < 4) (F : Fun K "_law_inner" "_law_inner" s__law_inner f fd) (mR : mg "_law_rows" = some (.ref fR)) (kR : PySem.W.keepIn K (.ref fR) = true) (bR : Binds K dR p__law_rows [])
    (GR : FnOk P w K mg base CX0 k fR dR p__law_rows (spBl (4 - (r : Int)) (cI (r + 1)) (r + 1))) : FnOk P w K mg base CX0 (k + 1) f fd p__law_rows (spBl (4 - ((r + 1 : Nat) : Int)) (cI (r + 1)) (r + 1)) := by
  refine F.ok sc__law_inner (fun vs H Q E ⟨D, L, a, Lf, n, g, l0, l1, times, ev, _⟩ => by rw [ev]; rfl) (fun cdv A outer s H vs Q E hr ⟨D, L, a, Lf, n, g, l0, l1, times, ev, hD, hn, hp, gL, nL, b0, b1, b2, q⟩ => ?_)
  subst ev
  refine ⟨_, (pss_one (ps_ret (pe_ifExp (pt_cmpR op_lt (pv 3) pe_int (nomark _)) (pe_call GR hr (by rfl) mR kR bR .nil pass0 (pa_cons (pv 0) (pa_cons (pv 1) (pa_cons (pv 2) (pa_cons (pe_op op_addE (pv 3) pe_int) (pa_cons (pv 4) pa_nil)))))) pe_never))), ?_⟩
  refine ⟨_, rfl, _, _, rfl, rfl, _, rfl, ite2 (fun _ => ?_) (fun h => absurd (decide_eq_true (by omega)) h)⟩
  refine ⟨_, rfl, _, rfl, _, rfl, _, rfl, _, _, rfl, rfl, fun z ez => ⟨_, rfl, D, L, a, Lf, n, g, l0, l1, times, ?_, hD, hn, hp, gL, nL, b0, b1, b2, q⟩⟩
  have e : z = 4 - (r : Int) := by rw [ez]; push_cast; omega
  rw [e]
  rfl
abbrev s__law_rows : Stmt := top 17
abbrev n__law_rows : List Str := ["_law_deck_here", "_law_pool_here", "_law_left", "_law_depth", "_law_times", "_law_rows_here", "_law_k", "_law_way", "_law_count", "_law_test", "_law_yes"]
theorem sc__law_rows : FnScope n__law_rows p__law_rows (defScope s__law_rows) := ⟨rfl, rfl, rfl, by decide +kernel, rfl, by decide +kernel, by decide +kernel⟩
theorem ok_rows {f f1 f2 f3 f4 fI : Addr} {fd fd1 fd2 fd3 fd4 dI : FuncData} {r k : Nat} (hr4 : r ≤ 4) (F : Fun K "_law_rows" "_law_rows" s__law_rows f fd) (T : Bi mg) (z_tuple : mg "tuple" = none)
    (D1 : Df K mg "_law_draw" s__law_draw ["_law_deck_here", "_law_many"] f1 fd1) (G1 : FnOk P w K mg base CX0 1 f1 fd1 ["_law_deck_here", "_law_many"] spDraw)
    (D2 : Df K mg "_law_one" s__law_one ["_law_deck_here", "_law_items"] f2 fd2) (G2 : FnOk P w K mg base CX0 2 f2 fd2 ["_law_deck_here", "_law_items"] (spOne K))
    (D3 : Df K mg "_law_any_test" s__law_any_test ["_law_deck_here", "_law_pool_here"] f3 fd3) (G3 : FnOk P w K mg base CX0 3 f3 fd3 ["_law_deck_here", "_law_pool_here"] spTest)
    (D4 : Df K mg "_law_row" s__law_row ["_law_deck_here", "_law_pool_here"] f4 fd4) (G4 : FnOk P w K mg base CX0 4 f4 fd4 ["_law_deck_here", "_law_pool_here"] spRow)
    (mI : mg "_law_inner" = some (.ref fI)) (kI : PySem.W.keepIn K (.ref fI) = true) (bI : Binds K dI p__law_rows []) (hk : 5 ≤ k) (GI : FnOk P w K mg base CX0 k fI dI p__law_rows (spBl (4 - (r : Int)) (cI r) r)) : FnOk P w K mg base CX0 (k + 1) f fd p__law_rows (spBl (4 - (r : Int)) (cI (r + 1)) (r + 1)) := by
  refine F.ok sc__law_rows (fun vs H Q E ⟨D, L, a, Lf, n, g, l0, l1, times, ev, _⟩ => by rw [ev]; rfl) (fun cdv A outer s H vs Q E hr ⟨D, L, a, Lf, n, g, l0, l1, times, ev, hD, hn, hp, gL, nL, b0, b1, b2, q⟩ => ?_)
  subst ev
  have hr1 : Room 1 _ := hr.mono (by omega)
  have hr2 : Room 2 _ := hr.mono (by omega)
  have hr3 : Room 3 _ := hr.mono (by omega)
  have hr4' : Room 4 _ := hr.mono (by omega)
  refine ⟨_, (pss_cons (ps_set (i := 5) sc__law_rows.nd rfl (.inl rfl) (pe_lst pa_nil))
      (pss_cons (ps_for PassesOwn.never rfl (pi_range1 (by rfl) T.z_range (pa_cons (pe_cons (tw := twMany) (pe_call G1 hr1 (by rfl) D1.m D1.F.kp D1.b .nil pass0 (pa_cons (pv 0) (pa_cons (pe_ifExp (pt_cmpR op_eq (pv 3) pe_int (nomark _)) (pe_call G2 hr2 (by rfl) D2.m D2.F.kp D2.b .nil pass0 (pa_cons (pv 0) (pa_cons (pe_lst (pa_cons pe_int (pa_cons pe_int (pa_cons pe_int pa_nil)))) pa_nil))) pe_int) pa_nil))) (fun σ H Q ⟨D, L, n, dp, e0, e3, hD, hn, q⟩ => by
        refine ⟨_, e0, _, e3, rfl, _, rfl, ite2 (fun _ => ?_) (fun _ => ?_)⟩
        · refine ⟨_, e0, line1000 (Nat.le_of_ble_eq_true rfl), fun l nl => ?_⟩
          have hl : l ∉ [D, L] := by simpa using hD.neD nl
          have s7 := Same.up (o := HO.lst [V.int 3, V.int 6, V.int 31]) nl
          have hD7 := hD.kp (Kp.same (S := []) s7) (fun z => nomatch z) (fun z => nomatch z)
          refine ⟨D, L, _, .ref l, rfl, hD7, by omega, .inl ⟨l, _, rfl, .inl ⟨SqL.of upd_same, hl⟩, Nat.le_of_ble_eq_true rfl, Nat.le_of_ble_eq_true rfl, fun H8 y8 k8 hD8 hy8 => ?_⟩⟩
          obtain ⟨m, rfl, m0, m3⟩ : ∃ m : Int, y8 = .int m ∧ 3 ≤ m ∧ m ≤ 31 := by
            simp only [List.mem_cons, List.not_mem_nil, or_false] at hy8
            rcases hy8 with rfl | rfl | rfl
            · exact ⟨3, rfl, by decide, by decide⟩
            · exact ⟨6, rfl, by decide, by decide⟩
            · exact ⟨31, rfl, by decide, by decide⟩
          exact ⟨D, L, _, m, rfl, hD8, by omega, by omega, by omega, fun H9 r k9 hD9 r0 r1 => q H9 r ((Kp.same s7).trans (k8.trans k9)) hD9 r0 (by omega)⟩
        · exact ⟨D, L, n, 4, rfl, hD, by omega, by decide, by decide, fun H9 r k9 hD9 r0 r1 => q H9 r k9 (hD9.mono (by omega)) r0 (by omega)⟩)) pa_nil)) (pg_name (i := 6) sc__law_rows.nd rfl (.inl rfl))
      (pss_cons (ps_set (i := 7) sc__law_rows.nd rfl (.inl rfl) (pe_call G1 hr1 (by rfl) D1.m D1.F.kp D1.b .nil pass0 (pa_cons (pv 0) (pa_cons pe_int pa_nil))))
      (pss_one (ps_if (PW.pt (pw_and (pt_cmpR op_gt (pe_ix ix_list (pv 2) pe_int (fun _ _ => rfl)) pe_int (nomark _)) (pw_and1 (pt_cmpR op_ge (pe_ix ix_list (pv 2) pe_int (fun _ _ => rfl)) (pv 4) (nomark _)))))
      (pss_cons (ps_asg (pe_tup (pa_cons (pe_op op_subE (pe_ix ix_list (pv 2) pe_int (fun _ _ => rfl)) pe_int) (pa_cons (pe_op op_subE (pe_ix ix_list (pv 2) pe_int (fun _ _ => rfl)) (pv 4)) pa_nil))) (pg_tup rfl (pgs_cons (pg_sub (pv 2) pe_int set_list) (pgs_cons (pg_sub (pv 2) pe_int set_list) pgs_nil))))
      (pss_one (ps_if (pt_cmpR op_lt (pv 7) pe_int (nomark _))
      (pss_one (ps_expr (pe_bm PySem.F.plainAttrs_list PySem.F.slot_list_append PySem.F.type_list_append mt_append (pv 5) (pa_cons (pe_call G4 hr4' (by rfl) D4.m D4.F.kp D4.b .nil pass0 (pa_cons (pv 0) (pa_cons (pv 1) pa_nil))) pa_nil))))
      (pss_one (ps_if (pt_cmpR op_eq (pv 7) pe_int (nomark _))
      (pss_cons (ps_set (i := 8) sc__law_rows.nd rfl (.inl rfl) (pe_call G1 hr1 (by rfl) D1.m D1.F.kp D1.b .nil pass0 (pa_cons (pv 0) (pa_cons pe_int pa_nil))))
      (pss_one (ps_expr (pe_bm PySem.F.plainAttrs_list PySem.F.slot_list_append PySem.F.type_list_append mt_append (pv 5) (pa_cons (pe_tup (pa_cons pe_str (pa_cons (pv 8) (pa_cons (pe_call GI hr (by rfl) mI kI bI .nil pass0 (pa_cons (pv 0) (pa_cons (pv 1) (pa_cons (pv 2) (pa_cons (pv 3) (pa_cons (pe_op op_mul (pv 4) (pv 8)) pa_nil)))))) pa_nil)))) pa_nil)))))
      (pss_cons (ps_par (i := 9) (j := 10) (by rfl) sc__law_rows.nd rfl rfl (by decide) rfl rfl (pa_cons (pe_call G3 hr3 (by rfl) D3.m D3.F.kp D3.b .nil pass0 (pa_cons (pv 0) (pa_cons (pv 1) pa_nil))) (pa_cons (pe_call GI hr (by rfl) mI kI bI .nil pass0 (pa_cons (pv 0) (pa_cons (pv 1) (pa_cons (pv 2) (pa_cons (pv 3) (pa_cons (pv 4) pa_nil)))))) pa_nil)) (by rfl))
      (pss_one (ps_expr (pe_bm PySem.F.plainAttrs_list PySem.F.slot_list_append PySem.F.type_list_append mt_append (pv 5) (pa_cons (pe_tup (pa_cons pe_str (pa_cons (pv 9) (pa_cons (pv 10) (pa_cons (pe_call GI hr (by rfl) mI kI bI .nil pass0 (pa_cons (pv 0) (pa_cons (pv 1) (pa_cons (pv 2) (pa_cons (pv 3) (pa_cons (pv 4) pa_nil)))))) pa_nil))))) pa_nil))))))))))
      pss_nil))))
      (pss_one (ps_ret (pe_callTy call_tuple_of (by rfl) z_tuple (by decide +kernel) (pa_cons (pv 5) pa_nil)))))), ?_⟩
  have ec : cI (r + 1) = 633 + 60 * cI r := rfl
  rw [ec] at hn q
  obtain ⟨C, eC⟩ : ∃ C, C = 21 + 2 * cI r := ⟨_, rfl⟩
  refine ⟨Nat.zero_le _, fun R nR => ?_⟩
  have s1 := Same.up (o := HO.lst []) nR
  have gR1 : upd H R (HO.lst []) R = some (.lst []) := upd_same
  have nR' : R ∉ [D, L] := by simpa using hD.neD nR
  have nRL : Lf ≠ R := fun z => by rw [z, nR] at gL; cases gL
  have hD1 := hD.kp (Kp.same (S := []) s1) (fun z => nomatch z) (fun z => nomatch z)
  have gL1 := s1 _ _ gL
  generalize upd H R (HO.lst []) = H1 at s1 gR1 hD1 gL1 ⊢
  refine ⟨D, L, n, 4 - (r : Int), rfl, rfl, hD1, by omega, fun H2 m k2 hD2 m0 m1 => ⟨m, rfl, by omega, by omega, for_range (lo := 0) (n := m.toNat) (fun j σ H' => Ch [D, L, Lf, R] H1 H' ∧ Deck H' D L (n + 2 + j * C) ∧ ∃ (acc : List V) (blk : List Sta) (l0' l1' : Int) (x6 x7 x8 x9 x10 : Option V), H' R = some (.lst acc) ∧ TDs H' acc (blkData blk) ∧ H' Lf = some (.lst [.int l0', .int l1']) ∧ (∀ s ∈ blk, StaOk (r + 1) s) ∧ ((sizeB blk : Nat) : Int) + l0' ≤ l0 ∧ 0 ≤ l0' ∧ (0 ≤ l1' ∧ l1' ≤ 200) ∧ blk.length ≤ j ∧
      σ = [some (.ref D), some (.ref a), some (.ref Lf), some (.int (4 - (r : Int))), some (.int times), some (.ref R), x6, x7, x8, x9, x10])
    ⟨(deck_ch hD1 hD2 k2).mono (fun b hb => by simp at hb; rcases hb with rfl | rfl <;> simp), hD2.mono (by omega), [], [], l0, l1, none, none, none, none, none, k2 _ _ nR' gR1, .nil, k2 _ _ nL gL1, (fun _ z => nomatch z), (by show ((0 : Nat) : Int) + l0 ≤ l0; omega), b0.1, b1, Nat.zero_le _, rfl⟩ ?_ ?_⟩⟩
  · rintro j σ H' hj ⟨ch, hD', acc, blk, l0', l1', x6, x7, x8, x9, x10, gR, td, gL', hb, hs, c0, c1, lb, rfl⟩
    have hj30 : j < 30 := by omega
    have hC : (j + 1) * C ≤ 30 * C := Nat.mul_le_mul_right C hj30
    rw [Nat.succ_mul] at hC
    refine ⟨.ref D, rfl, D, L, _, 6, rfl, hD', by omega, by decide, by decide, fun Ha way ka hDa w0 w1 => ?_⟩
    have ca := deck_ch hD' hDa ka
    have gRa := ka _ _ nR' gR
    have gLa := ka _ _ nL gL'
    have tda := TDs.ch ca _ _ td
    have cha : Ch [D, L, Lf, R] H1 Ha := ch.trans (ca.mono (fun b hb => by simp at hb; rcases hb with rfl | rfl <;> simp))
    have la : acc.length ≤ 30 := by rw [td.len, blkData_eq, List.length_map]; omega
    have e1 : (j + 1) * C = j * C + C := Nat.succ_mul _ _
    have no : ∀ (H'' : Hp), H'' = Ha → Ch [D, L, Lf, R] H1 H'' ∧ Deck H'' D L (n + 2 + (j + 1) * C) ∧ ∃ (acc : List V) (blk : List Sta) (l0' l1' : Int) (y6 y7 y8 y9 y10 : Option V), H'' R = some (.lst acc) ∧ TDs H'' acc (blkData blk) ∧ H'' Lf = some (.lst [.int l0', .int l1']) ∧ (∀ s ∈ blk, StaOk (r + 1) s) ∧ ((sizeB blk : Nat) : Int) + l0' ≤ l0 ∧ 0 ≤ l0' ∧ (0 ≤ l1' ∧ l1' ≤ 200) ∧ blk.length ≤ j + 1 ∧
        [some (.ref D), some (.ref a), some (.ref Lf), some (.int (4 - (r : Int))), some (.int times), some (.ref R), some (.int (0 + (j : Int))), some (.int way), x8, x9, x10] = [some (.ref D), some (.ref a), some (.ref Lf), some (.int (4 - (r : Int))), some (.int times), some (.ref R), y6, y7, y8, y9, y10] := fun H'' e => by
      rw [e]
      exact ⟨cha, hDa.mono (by omega), acc, blk, l0', l1', _, _, _, _, _, gRa, tda, gLa, hb, hs, c0, c1, by omega, rfl⟩
    refine ⟨_, rfl, Lf, _, _, _, rfl, rfl, SqL.of gLa, atI_nat (j := 0) rfl, _, _, rfl, rfl, _, rfl, ite2 (fun h0 => ?_) (fun _ => iteF (no _ rfl))⟩
    have h0 : 0 < l0' := of_decide_eq_true h0
    refine ⟨_, rfl, Lf, _, _, _, rfl, rfl, SqL.of gLa, atI_nat (j := 1) rfl, _, rfl, _, _, rfl, rfl, _, rfl, ite2 (fun h1 => ?_) (fun _ => no _ rfl)⟩
    have h1 : times ≤ l1' := of_decide_eq_true h1
    refine ⟨_, rfl, Lf, _, _, _, rfl, rfl, SqL.of gLa, atI_nat (j := 0) rfl, _, _, rfl, rfl, fun z0 ez0 => ⟨_, rfl, Lf, _, _, _, rfl, rfl, SqL.of gLa, atI_nat (j := 1) rfl, _, rfl, _, _, rfl, rfl, fun z1 ez1 => ⟨line1000 (Nat.le_of_ble_eq_true rfl), fun tt ntt => ?_⟩⟩⟩
    have sT := Same.up (o := HO.tup [V.int z0, V.int z1]) ntt
    refine ⟨tt, _, rfl, SqT.of upd_same, rfl, _, _, rfl, _, rfl, Lf, _, _, _, rfl, rfl, sT _ _ gLa, rfl, _, _, rfl, _, rfl, Lf, _, _, _, rfl, rfl, upd_same, rfl, rfl, ?_⟩
    generalize hHb : upd (upd (upd Ha tt _) Lf _) Lf _ = Hb
    have gLb : Hb Lf = some (.lst [.int z0, .int z1]) := by rw [← hHb]; exact upd_same
    have cb : Ch [Lf] Ha Hb := by
      rw [← hHb]
      exact ((Ch.same sT).put (by simp) (sT _ _ gLa) (fun xs z => by cases z)).put (by simp) upd_same (fun xs z => by cases z)
    clear hHb
    have nR3 : R ∉ [D, L, Lf] := by simp at nR' ⊢; exact ⟨nR'.1, nR'.2, Ne.symm nRL⟩
    have gRb := cb.kp _ _ (by simpa using Ne.symm nRL) gRa
    have hDb := hDa.kp cb.kp (by simp at nL ⊢; exact Ne.symm nL.1) (by simp at nL ⊢; exact Ne.symm nL.2)
    have tdb := TDs.ch cb _ _ tda
    have chb : Ch [D, L, Lf, R] H1 Hb := cha.trans (cb.mono (fun b hb => by simp at hb; simp [hb]))
    have poolb : Pool Hb D L a g := by
      refine hp.kpL gL (Kp.fresh (p := R) ?_ nR)
      exact (Kp.same s1).trans (chb.kp.mono (fun b hb => by simp at hb ⊢; rcases hb with rfl | rfl | rfl | rfl <;> simp))
    have fin : ∀ (Hd : Hp) (v : V) (sta : Sta) (l0'' l1'' : Int), Ch [D, L, Lf] Hb Hd → Deck Hd D L (n + 2 + (j + 1) * C) → Hd Lf = some (.lst [.int l0'', .int l1'']) → TD Hd v sta.data → StaOk (r + 1) sta → ((sta.size : Nat) : Int) + l0'' ≤ l0' → 0 ≤ l0'' → (0 ≤ l1'' ∧ l1'' ≤ 200) → ∀ x8 x9 x10 : Option V,
        Ch [D, L, Lf, R] H1 (upd Hd R (.lst (acc ++ [v]))) ∧ Deck (upd Hd R (.lst (acc ++ [v]))) D L (n + 2 + (j + 1) * C) ∧ ∃ (acc' : List V) (blk : List Sta) (l0' l1' : Int) (y6 y7 y8 y9 y10 : Option V), upd Hd R (.lst (acc ++ [v])) R = some (.lst acc') ∧ TDs (upd Hd R (.lst (acc ++ [v]))) acc' (blkData blk) ∧ upd Hd R (.lst (acc ++ [v])) Lf = some (.lst [.int l0', .int l1']) ∧ (∀ s ∈ blk, StaOk (r + 1) s) ∧ ((sizeB blk : Nat) : Int) + l0' ≤ l0 ∧ 0 ≤ l0' ∧ (0 ≤ l1' ∧ l1' ≤ 200) ∧ blk.length ≤ j + 1 ∧
        [some (.ref D), some (.ref a), some (.ref Lf), some (.int (4 - (r : Int))), some (.int times), some (.ref R), some (.int (0 + (j : Int))), some (.int way), x8, x9, x10] = [some (.ref D), some (.ref a), some (.ref Lf), some (.int (4 - (r : Int))), some (.int times), some (.ref R), y6, y7, y8, y9, y10] := fun Hd v sta l0'' l1'' cd hDd gLd tdv ok hsz e0 e1 x8 x9 x10 => by
      have gRd := cd.kp _ _ nR3 gRb
      have c5 : Ch [R] Hd (upd Hd R (.lst (acc ++ [v]))) := (Ch.refl _ _).put (by simp) gRd (fun xs z => by cases z)
      refine ⟨chb.trans ((cd.mono (fun b hb => by simp at hb; rcases hb with rfl | rfl | rfl <;> simp)).trans (c5.mono (fun b hb => by simp at hb; simp [hb]))), hDd.kp c5.kp (by simp at nR' ⊢; exact Ne.symm nR'.1) (by simp at nR' ⊢; exact Ne.symm nR'.2), _, blk ++ [sta], l0'', l1'', _, _, _, _, _, upd_same, ?_, ?_, ?_, ?_, e0, e1, by rw [List.length_append]; exact Nat.succ_le_succ lb, rfl⟩
      · rw [blk_snoc]
        exact (TDs.ch c5 _ _ (TDs.ch cd _ _ tdb)).snoc (TD.ch c5 _ _ tdv)
      · rw [upd_ne nRL]
        exact gLd
      · intro s hs
        rcases List.mem_append.mp hs with hs | hs
        · exact hb s hs
        · rw [List.mem_singleton.mp hs]
          exact ok
      · rw [sizeB_snoc]
        push_cast
        omega
    clear no
    refine ⟨_, rfl, _, _, rfl, rfl, _, rfl, ite2 (fun hw => ?_) (fun hw => ?_)⟩
    · refine ⟨_, rfl, .inl ⟨rfl, _, SqL.of gRb⟩, .ref D, rfl, .ref a, rfl, D, L, a, _, g, rfl, hDb, by omega, poolb, fun Hc v b kc hDc tdv bn => ?_⟩
      have cc := deck_ch hDb hDc kc
      exact ⟨R, acc, _, rfl, rfl, kc _ _ nR' gRb, lt_line (by omega), fin Hc v (.act b) z0 z1 (cc.mono (fun b hb => by simp at hb; rcases hb with rfl | rfl <;> simp)) (hDc.mono (by omega)) (kc _ _ nL gLb) tdv (by cases b <;> exact bn) (by show ((1 : Nat) : Int) + z0 ≤ l0'; omega) (by omega) (by omega) _ _ _⟩
    refine ⟨_, rfl, rfl, _, rfl, ite2 (fun hw4 => ?_) (fun hw4 => ?_)⟩
    · refine ⟨.ref D, rfl, D, L, _, 13, rfl, hDb, by omega, by decide, by decide, fun Hc cnt kc hDc r0 r1 => ?_⟩
      have cc := deck_ch hDb hDc kc
      have gRc := kc _ _ nR' gRb
      have hmul : 0 ≤ times * cnt ∧ times * cnt ≤ 2400 := by
        have h2 : times * cnt ≤ 200 * 12 := Int.mul_le_mul (by omega) (by omega) r0 (by decide)
        exact ⟨Int.mul_nonneg b2.1 r0, by omega⟩
      refine ⟨_, rfl, .inl ⟨rfl, _, SqL.of gRc⟩, _, rfl, .ref D, rfl, .ref a, rfl, .ref Lf, rfl, _, rfl, _, rfl, _, rfl, _, _, rfl, rfl, .inl ⟨by omega, by omega⟩, D, L, a, Lf, _, g, z0, z1, times * cnt, rfl, hDc, by omega, poolb.kp kc, kc _ _ nL gLb, nL, ⟨by omega, by omega⟩, ⟨by omega, by omega⟩, hmul, fun Hd t blk' l0'' l1'' cd hDd gLd tdt hbk hsz e0 e1 => ⟨line1000 (Nat.le_of_ble_eq_true rfl), fun t3 n3 => ?_⟩⟩
      have s3 := Same.up (o := HO.tup [V.str "repeat", V.int cnt, V.ref t]) n3
      have cbd : Ch [D, L, Lf] Hb (upd Hd t3 (.tup [.str "repeat", .int cnt, .ref t])) := (cc.mono (fun b hb => by simp at hb; rcases hb with rfl | rfl <;> simp)).trans (cd.trans (Ch.same s3))
      have hDe := hDd.kp (Kp.same (S := []) s3) (fun z => nomatch z) (fun z => nomatch z)
      have tdv : TD (upd Hd t3 (.tup [.str "repeat", .int cnt, .ref t])) (.ref t3) (Sta.rep cnt.toNat blk').data := by
        refine .tup upd_same (.cons (.str _) (.cons ?_ (.cons (TD.ch (Ch.same (S := []) s3) _ _ tdt) .nil)))
        rw [show V.int cnt = V.int ((cnt.toNat : Nat) : Int) by rw [Int.toNat_of_nonneg r0]]
        exact .int _
      exact ⟨R, acc, _, rfl, rfl, cbd.kp _ _ nR3 gRb, lt_line (by omega), fin _ _ (.rep cnt.toNat blk') l0'' l1'' cbd (hDe.mono (by omega)) (s3 _ _ gLd) tdv ⟨by omega, hbk⟩ (by show ((1 + sizeB blk' : Nat) : Int) + l0'' ≤ l0'; push_cast; omega) e0 e1 _ _ _⟩
    · refine ⟨.ref D, rfl, .ref a, rfl, D, L, a, _, g, rfl, hDb, by omega, poolb, fun Hc v t kc hDc tdv tok => ?_⟩
      have cc := deck_ch hDb hDc kc
      refine ⟨.ref D, rfl, .ref a, rfl, .ref Lf, rfl, _, rfl, _, rfl, D, L, a, Lf, _, g, z0, z1, times, rfl, hDc, by omega, poolb.kp kc, kc _ _ nL gLb, nL, ⟨by omega, by omega⟩, ⟨by omega, by omega⟩, b2, fun Hd ty by1 y0 y1 cd hDd gLd tdy hby hszy f0 f1 => ?_⟩
      have cbd : Ch [D, L, Lf] Hb Hd := (cc.mono (fun b hb => by simp at hb; rcases hb with rfl | rfl <;> simp)).trans cd
      have gRd := cbd.kp _ _ nR3 gRb
      have poold : Pool Hd D L a g := poolb.kpL gLb cbd.kp
      refine ⟨_, _, rfl, _, rfl, .inl ⟨rfl, _, SqL.of gRd⟩, _, rfl, _, rfl, .ref D, rfl, .ref a, rfl, .ref Lf, rfl, _, rfl, _, rfl, D, L, a, Lf, _, g, y0, y1, times, rfl, hDd, by omega, poold, gLd, nL, ⟨by omega, by omega⟩, f1, b2, fun He tn bn x0 x1 ce hDe gLe tdn hbn hszn h0' h1' => ⟨line1000 (Nat.le_of_ble_eq_true rfl), fun t3 n3 => ?_⟩⟩
      have s3 := Same.up (o := HO.tup [V.str "if", v, V.ref ty, V.ref tn]) n3
      have cbe : Ch [D, L, Lf] Hb (upd He t3 (.tup [.str "if", v, .ref ty, .ref tn])) := cbd.trans (ce.trans (Ch.same s3))
      have hDf := hDe.kp (Kp.same (S := []) s3) (fun z => nomatch z) (fun z => nomatch z)
      have cde : Ch [D, L, Lf] Hd (upd He t3 (.tup [.str "if", v, .ref ty, .ref tn])) := ce.trans (Ch.same s3)
      have tdv' : TD (upd He t3 (.tup [.str "if", v, .ref ty, .ref tn])) (.ref t3) (Sta.cond t by1 bn).data :=
        .tup upd_same (.cons (.str _) (.cons (TD.ch cde _ _ (TD.ch cd _ _ tdv)) (.cons (TD.ch cde _ _ tdy) (.cons (TD.ch (Ch.same (S := []) s3) _ _ tdn) .nil))))
      exact ⟨R, acc, _, rfl, rfl, cbe.kp _ _ nR3 gRb, lt_line (by omega), fin _ _ (.cond t by1 bn) x0 x1 cbe (hDf.mono (by omega)) (s3 _ _ gLe) tdv' ⟨tok, hby, hbn⟩ (by show ((1 + (sizeB by1 + sizeB bn) : Nat) : Int) + x0 ≤ l0'; push_cast; omega) h0' h1' _ _ _⟩
  · rintro σ H' ⟨ch, hD', acc, blk, l0', l1', x6, x7, x8, x9, x10, gR, td, gL', hb, hs, c0, c1, lb, rfl⟩
    have hm30 : m.toNat * C ≤ 30 * C := Nat.mul_le_mul_right C (by omega)
    refine ⟨_, rfl, R, _, rfl, .inl ⟨SqL.of gR, fun t nt => ?_⟩⟩
    have sE := Same.up (o := HO.tup acc) nt
    have cE : Ch [D, L, Lf] H (upd H' t (.tup acc)) := by
      have c : Ch [D, L, Lf, R] H (upd H' t (.tup acc)) := (Ch.same s1).trans (ch.trans (Ch.same sE))
      exact c.lessS fun b hb => by
        simp at hb
        rcases hb with rfl | rfl | rfl | rfl
        · exact .inl (by simp)
        · exact .inl (by simp)
        · exact .inl (by simp)
        · exact .inr nR
    exact q _ t blk l0' l1' cE ((hD'.kp (Kp.same (S := []) sE) (fun z => nomatch z) (fun z => nomatch z)).mono (by omega)) (sE _ _ gL') (.tup upd_same (TDs.ch (Ch.same (S := []) sE) _ _ td)) hb hs c0 c1
end
end G

set_option Elab.async false
set_option linter.all false
set_option maxRecDepth 100000
set_option maxHeartbeats 4000000
/-! _law_free. -/
namespace G
open PySem PySem.Spec PyProof.Rows L2
section
variable {P : Program} {w : World} {K : PySem.W.Frag} {mg : Str → Option Value} {base : Heap}
/-- the rows at depth 0, from the other defs -/
theorem rows_all {f1 f2 f3 f4 fR fI : Addr} {fd1 fd2 fd3 fd4 dR dI : FuncData} (T : Bi mg) (z_tuple : mg "tuple" = none)
    (D1 : Df K mg "_law_draw" s__law_draw ["_law_deck_here", "_law_many"] f1 fd1) (G1 : FnOk P w K mg base CX0 1 f1 fd1 ["_law_deck_here", "_law_many"] spDraw)
    (D2 : Df K mg "_law_one" s__law_one ["_law_deck_here", "_law_items"] f2 fd2) (G2 : FnOk P w K mg base CX0 2 f2 fd2 ["_law_deck_here", "_law_items"] (spOne K))
    (D3 : Df K mg "_law_any_test" s__law_any_test ["_law_deck_here", "_law_pool_here"] f3 fd3) (G3 : FnOk P w K mg base CX0 3 f3 fd3 ["_law_deck_here", "_law_pool_here"] spTest)
    (D4 : Df K mg "_law_row" s__law_row ["_law_deck_here", "_law_pool_here"] f4 fd4) (G4 : FnOk P w K mg base CX0 4 f4 fd4 ["_law_deck_here", "_law_pool_here"] spRow)
    (DR : Df K mg "_law_rows" s__law_rows p__law_rows fR dR) (DI : Df K mg "_law_inner" s__law_inner p__law_rows fI dI) : FnOk P w K mg base CX0 14 fR dR p__law_rows (spBl 0 (cI 5) 5) := by
  have I0 := ok_inner0 (P := P) (w := w) (mg := mg) (base := base) DI.F
  have R0 := ok_rows (r := 0) (by decide) DR.F T z_tuple D1 G1 D2 G2 D3 G3 D4 G4 DI.m DI.F.kp DI.b (by decide) I0
  have I1 := ok_innerS (r := 0) (by decide) DI.F DR.m DR.F.kp DR.b R0
  have R1 := ok_rows (r := 1) (by decide) DR.F T z_tuple D1 G1 D2 G2 D3 G3 D4 G4 DI.m DI.F.kp DI.b (by decide) I1
  have I2 := ok_innerS (r := 1) (by decide) DI.F DR.m DR.F.kp DR.b R1
  have R2 := ok_rows (r := 2) (by decide) DR.F T z_tuple D1 G1 D2 G2 D3 G3 D4 G4 DI.m DI.F.kp DI.b (by decide) I2
  have I3 := ok_innerS (r := 2) (by decide) DI.F DR.m DR.F.kp DR.b R2
  have R3 := ok_rows (r := 3) (by decide) DR.F T z_tuple D1 G1 D2 G2 D3 G3 D4 G4 DI.m DI.F.kp DI.b (by decide) I3
  have I4 := ok_innerS (r := 3) (by decide) DI.F DR.m DR.F.kp DR.b R3
  exact ok_rows (r := 4) (by decide) DR.F T z_tuple D1 G1 D2 G2 D3 G3 D4 G4 DI.m DI.F.kp DI.b (by decide) I4
abbrev s__law_free : Stmt := top 19
abbrev n__law_free : List Str := ["_law_deck_here", "_law_most", "_law_pool_here"]
theorem sc__law_free : FnScope n__law_free ["_law_deck_here", "_law_most"] (defScope s__law_free) := ⟨rfl, rfl, rfl, by decide +kernel, rfl, by decide +kernel, by decide +kernel⟩
/-- a program and its pool -/
def spFree : Sp := fun vs H Q _ => ∃ (D L : Addr) (n : Nat) (most : Int), vs = [.ref D, .int most] ∧ Deck H D L n ∧ n < 8 * 10 ^ 10 ∧ (0 ≤ most ∧ most ≤ 31) ∧
  ∀ (H' : Hp) (t p a : Addr) (g : Int) (blk : List Sta), Kp [D, L] H H' → Deck H' D L (n + 9 * 10 ^ 9) → H' t = some (.tup [.ref p, .ref a]) → TD H' (.ref p) (.tuple [.int g, .tuple (blkData blk)]) → (0 ≤ g ∧ g < 4) → (∀ s ∈ blk, StaOk 5 s) → ((sizeB blk : Nat) : Int) ≤ most → Pool H' D L a g → Q (.ref t) H'
theorem ok_free {f fP fR : Addr} {fd dP dR : FuncData} (F : Fun K "_law_free" "_law_free" s__law_free f fd)
    (DP : Df K mg "_law_pool" s__law_pool ["_law_deck_here"] fP dP) (GP : FnOk P w K mg base CX0 4 fP dP ["_law_deck_here"] spPool)
    (DR : Df K mg "_law_rows" s__law_rows p__law_rows fR dR) (GR : FnOk P w K mg base CX0 14 fR dR p__law_rows (spBl 0 (cI 5) 5)) : FnOk P w K mg base CX0 15 f fd ["_law_deck_here", "_law_most"] spFree := by
  refine F.ok sc__law_free (fun vs H Q E ⟨D, L, n, most, ev, _⟩ => by rw [ev]; rfl) (fun cdv A outer s H vs Q E hr ⟨D, L, n, most, ev, hD, hn, hm, q⟩ => ?_)
  subst ev
  have hr4 : Room 4 _ := hr.mono (by decide)
  refine ⟨_, (pss_cons (ps_set (i := 2) sc__law_free.nd rfl (.inl rfl) (pe_call GP hr4 (by rfl) DP.m DP.F.kp DP.b .nil pass0 (pa_cons (pv 0) pa_nil)))
      (pss_one (ps_ret (pe_tup (pa_cons (pe_tup (pa_cons (pe_ix ix_list (pv 2) pe_int (fun _ _ => rfl)) (pa_cons (pe_call GR hr (by rfl) DR.m DR.F.kp DR.b .nil pass0 (pa_cons (pv 0) (pa_cons (pv 2) (pa_cons (pe_lst (pa_cons (pv 1) (pa_cons pe_int pa_nil))) (pa_cons pe_int (pa_cons pe_int pa_nil)))))) pa_nil))) (pa_cons (pv 2) pa_nil)))))), ?_⟩
  have e5 : cI 5 = 8342725413 := by decide
  refine ⟨.ref D, rfl, D, L, n, rfl, hD, by omega, fun H1 a g k1 hD1 hp => ?_⟩
  obtain ⟨N, Wd, ns, ws, ga, gN, gW, hN, hW, lN, lW, hg, na, neN, neW⟩ := id hp
  refine ⟨_, rfl, a, _, _, _, rfl, rfl, SqL.of ga, atI_nat (j := 2) rfl, ?_⟩
  refine ⟨.ref D, rfl, .ref a, rfl, _, rfl, line1000 (Nat.le_of_ble_eq_true rfl), fun l nl => ?_⟩
  have s2 := Same.up (o := HO.lst [V.int most, V.int 200]) nl
  have gl : upd H1 l (HO.lst [V.int most, V.int 200]) l = some (.lst [V.int most, V.int 200]) := upd_same
  have nl' : l ∉ [D, L] := by simpa using hD1.neD nl
  have hD2 := hD1.kp (Kp.same (S := []) s2) (fun z => nomatch z) (fun z => nomatch z)
  have hp2 := hp.kp (Kp.same s2)
  generalize upd H1 l (HO.lst [V.int most, V.int 200]) = H2 at s2 gl hD2 hp2 ⊢
  refine ⟨D, L, a, l, _, g, most, 200, 1, rfl, hD2, by rw [e5]; omega, hp2, gl, nl', hm, ⟨by decide, by decide⟩, ⟨by decide, by decide⟩, fun H3 t blk l0' l1' c3 hD3 gl3 tdt hok hsz h0 h1 => ⟨line1000 (Nat.le_of_ble_eq_true rfl), fun p np => ⟨_, rfl, line1000 (Nat.le_of_ble_eq_true rfl), fun tt ntt => ?_⟩⟩⟩
  have sP := Same.up (o := HO.tup [V.int g, V.ref t]) np
  have sT := Same.up (o := HO.tup [V.ref p, V.ref a]) ntt
  have sPT := Same.trans sP sT
  have hp3 : Pool H3 D L a g := hp2.kpL gl c3.kp
  have nlH : H l = none := k1.none_of nl nl'
  have k13 : Kp [D, L] H H3 := Kp.fresh (p := l) ((k1.mono (T := [l, D, L]) (fun b hb => List.mem_cons_of_mem _ hb)).trans ((Kp.same s2).trans (c3.kp.mono (fun b hb => by simp at hb ⊢; rcases hb with rfl | rfl | rfl <;> simp)))) nlH
  refine q _ tt p a g blk (k13.trans (Kp.same sPT)) ((hD3.kp (Kp.same (S := []) sPT) (fun z => nomatch z) (fun z => nomatch z)).mono (by rw [e5]; omega)) upd_same (.tup (sT _ _ upd_same) (.cons (.int g) (.cons (TD.ch (Ch.same (S := []) sPT) _ _ tdt) .nil))) hg hok (by omega) (hp3.kp (Kp.same sPT))
end
end G

set_option Elab.async false
set_option linter.all false
set_option maxRecDepth 100000
set_option maxHeartbeats 4000000
/-! k06: a written test. Written by mkU6.py. -/
namespace G
open PySem PySem.Spec PyProof.Rows L2
theorem td_tup {H : Hp} {v : V} {ds : List PyData} (h : TD H v (.tuple ds)) : ∃ a xs, v = .ref a ∧ H a = some (.tup xs) ∧ TDs H xs ds := by
  cases h with
  | tup h1 h2 => exact ⟨_, _, rfl, h1, h2⟩
theorem tds1 {H : Hp} {vs : List V} {d : PyData} (h : TDs H vs [d]) : ∃ v, vs = [v] ∧ TD H v d := by
  cases h with
  | cons h1 h2 => cases h2; exact ⟨_, rfl, h1⟩
theorem tds_cons {H : Hp} {vs : List V} {d : PyData} {ds : List PyData} (h : TDs H vs (d :: ds)) : ∃ v r, vs = v :: r ∧ TD H v d ∧ TDs H r ds := by
  cases h with
  | cons h1 h2 => exact ⟨_, _, rfl, h1, h2⟩
def intS (i : Nat) : Str := Str.ofString (toString (i : Int))
theorem intS_len : ∀ i < 100, (intS i).length ≤ 2 := by decide +kernel
/-- a test in a line -/
def tstText : Tst → Str
  | .given i => Str.empty ++ Str.ofString "given" ++ Str.ofString " " ++ intS i
  | .set x => Str.empty ++ Str.ofString "set" ++ Str.ofString " " ++ x
  | .same x y => Str.empty ++ x ++ Str.ofString " is " ++ y
  | .full x f => Str.empty ++ Str.ofString "full " ++ x ++ Str.ofString "." ++ f
  | .wished w => Str.empty ++ Str.ofString "wished" ++ Str.ofString " " ++ w
  | .not t => Str.ofString "not " ++ tstText t
theorem log4 {i : Nat} (h : i < 4) : ((i : Nat) : Int).natAbs.log2 < 1920 := Nat.lt_of_le_of_lt (Nat.log2_le_self _) (by omega)
theorem e_len : (Str.empty).length = 0 := rfl
theorem tst_len : ∀ {t : Tst}, t.nm → (tstText t).length ≤ 24 + 4 * t.depth
  | .given i, h => by
    have h : i < 4 := h
    have := intS_len i (by omega)
    show (Str.empty ++ Str.ofString "given" ++ Str.ofString " " ++ intS i).length ≤ 24 + 4 * 0
    rw [strLen_append, strLen_append, strLen_append]
    show 0 + 5 + 1 + (intS i).length ≤ _
    omega
  | .set x, h => by
    have h : Nm x := h
    have := h.1
    show (Str.empty ++ Str.ofString "set" ++ Str.ofString " " ++ x).length ≤ 24 + 4 * 0
    rw [strLen_append, strLen_append, strLen_append]
    show 0 + 3 + 1 + x.length ≤ _
    omega
  | .same x y, h => by
    have h : Nm x ∧ Nm y := h
    have := h.1.1
    have := h.2.1
    show (Str.empty ++ x ++ Str.ofString " is " ++ y).length ≤ 24 + 4 * 0
    rw [strLen_append, strLen_append, strLen_append]
    show 0 + x.length + 4 + y.length ≤ _
    omega
  | .full x f, h => by
    have h : Nm x ∧ Nm f := h
    have := h.1.1
    have := h.2.1
    show (Str.empty ++ Str.ofString "full " ++ x ++ Str.ofString "." ++ f).length ≤ 24 + 4 * 0
    rw [strLen_append, strLen_append, strLen_append, strLen_append]
    show 0 + 5 + x.length + 1 + f.length ≤ _
    omega
  | .wished w, h => by
    have h : Nm w := h
    have := h.1
    show (Str.empty ++ Str.ofString "wished" ++ Str.ofString " " ++ w).length ≤ 24 + 4 * 0
    rw [strLen_append, strLen_append, strLen_append]
    show 0 + 6 + 1 + w.length ≤ _
    omega
  | .not t, h => by
    have ih := tst_len (t := t) h
    show (Str.ofString "not " ++ tstText t).length ≤ 24 + 4 * (t.depth + 1)
    rw [strLen_append]
    show 4 + (tstText t).length ≤ _
    omega
section
variable {P : Program} {w : World} {K : PySem.W.Frag} {mg : Str → Option Value} {base : Heap}
abbrev s_written_test : Stmt := top 1
abbrev n_written_test : List Str := ["test"]
theorem sc_written_test : FnScope n_written_test ["test"] (defScope s_written_test) := ⟨rfl, rfl, rfl, by decide +kernel, rfl, by decide +kernel, by decide +kernel⟩
def spWT (d : Nat) : Sp := fun vs H Q _ => ∃ (v : V) (t : Tst), vs = [v] ∧ TD H v t.data ∧ t.nm ∧ t.depth ≤ d ∧ t.depth ≤ 3 ∧ ∀ H', Same H H' → Q (.str (tstText t)) H'
theorem ok_wt0 {f : Addr} {fd : FuncData} (F : Fun K "written_test" "written_test" s_written_test f fd) : FnOk P w K mg base CX0 1 f fd ["test"] (spWT 0) := by
  refine F.ok sc_written_test (fun vs H Q E ⟨v, t, ev, _⟩ => by rw [ev]; rfl) (fun cdv A outer s H vs Q E hr ⟨v, t, ev, td, tn, t0, t3, q⟩ => ?_)
  subst ev
  refine ⟨_, (pss_cons (ps_if (pt_cmpR op_eq (pe_ix ix_tup (pv 0) pe_int (fun _ _ => rfl)) pe_str (nomark _))
      (pss_one (ps_ret (pe_op op_add_str pe_str pe_never)))
      pss_nil)
      (pss_cons (ps_if (pt_cmpR op_eq (pe_ix ix_tup (pv 0) pe_int (fun _ _ => rfl)) pe_str (nomark _))
      (pss_one (ps_ret (pe_joined (.cons (pe_fmt (pe_ix ix_tup (pv 0) pe_int (fun _ _ => rfl))) (.cons pe_str (.cons (pe_fmt (pe_ix ix_tup (pv 0) pe_int (fun _ _ => rfl))) .nil))))))
      pss_nil)
      (pss_cons (ps_if (pt_cmpR op_eq (pe_ix ix_tup (pv 0) pe_int (fun _ _ => rfl)) pe_str (nomark _))
      (pss_one (ps_ret (pe_joined (.cons pe_str (.cons (pe_fmt (pe_ix ix_tup (pv 0) pe_int (fun _ _ => rfl))) (.cons pe_str (.cons (pe_fmt (pe_ix ix_tup (pv 0) pe_int (fun _ _ => rfl))) .nil)))))))
      pss_nil)
      (pss_one (ps_ret (pe_joined (.cons (pe_fmt (pe_ix ix_tup (pv 0) pe_int (fun _ _ => rfl))) (.cons pe_str (.cons (pe_fmt (pe_ix ix_tup (pv 0) pe_int (fun _ _ => rfl))) .nil))))))))), ?_⟩
  have q0 := e_len
  have q1 : (Str.ofString "given").length = 5 := rfl
  have q2 : (Str.ofString " ").length = 1 := rfl
  have q3 : (Str.ofString " is ").length = 4 := rfl
  have q4 : (Str.ofString "full ").length = 5 := rfl
  have q5 : (Str.ofString ".").length = 1 := rfl
  have q6 : (Str.ofString "not ").length = 4 := rfl
  have q7 : (Str.ofString "set").length = 3 := rfl
  have q8 : (Str.ofString "wished").length = 6 := rfl
  cases t with
  | given i =>
    obtain ⟨r, xs, rfl, gr, ds⟩ := td_tup td
    obtain ⟨v1, xs, rfl, d1, ds⟩ := tds_cons ds
    obtain ⟨v2, rfl, d2⟩ := tds1 ds
    cases d1; cases d2
    have hi : i < 4 := tn
    have hl : (Str.ofString (toString (i : Int))).length ≤ 2 := intS_len i (by omega)
    refine ⟨_, rfl, r, _, _, _, rfl, rfl, SqT.of gr, atI_nat (j := 0) rfl, rfl, _, rfl, ite2 (fun h => absurd h (by decide)) (fun _ => ?_)⟩
    refine ⟨_, rfl, r, _, _, _, rfl, rfl, SqT.of gr, atI_nat (j := 0) rfl, rfl, _, rfl, ite2 (fun h => absurd h (by decide)) (fun _ => ?_)⟩
    refine ⟨_, rfl, r, _, _, _, rfl, rfl, SqT.of gr, atI_nat (j := 0) rfl, rfl, _, rfl, ite2 (fun h => absurd h (by decide)) (fun _ => ?_)⟩
    exact ⟨_, rfl, r, _, _, _, rfl, rfl, SqT.of gr, atI_nat (j := 0) rfl, .inl ⟨_, rfl, line1000 (by omega), _, rfl, line1000 (by simp only [strLen_append]; omega), _, rfl, line1000 (by simp only [strLen_append]; omega), _, rfl, r, _, _, _, rfl, rfl, SqT.of gr, atI_nat (j := 1) rfl, .inr ⟨_, rfl, log4 hi, _, rfl, line1000 (by simp only [strLen_append]; omega), q _ (Same.refl _)⟩⟩⟩
  | set x =>
    obtain ⟨r, xs, rfl, gr, ds⟩ := td_tup td
    obtain ⟨v1, xs, rfl, d1, ds⟩ := tds_cons ds
    obtain ⟨v2, rfl, d2⟩ := tds1 ds
    cases d1; cases d2
    have hx : Nm x := tn
    have := hx.1
    refine ⟨_, rfl, r, _, _, _, rfl, rfl, SqT.of gr, atI_nat (j := 0) rfl, rfl, _, rfl, ite2 (fun h => absurd h (by decide)) (fun _ => ?_)⟩
    refine ⟨_, rfl, r, _, _, _, rfl, rfl, SqT.of gr, atI_nat (j := 0) rfl, rfl, _, rfl, ite2 (fun h => absurd h (by decide)) (fun _ => ?_)⟩
    refine ⟨_, rfl, r, _, _, _, rfl, rfl, SqT.of gr, atI_nat (j := 0) rfl, rfl, _, rfl, ite2 (fun h => absurd h (by decide)) (fun _ => ?_)⟩
    exact ⟨_, rfl, r, _, _, _, rfl, rfl, SqT.of gr, atI_nat (j := 0) rfl, .inl ⟨_, rfl, line1000 (by omega), _, rfl, line1000 (by simp only [strLen_append]; omega), _, rfl, line1000 (by simp only [strLen_append]; omega), _, rfl, r, _, _, _, rfl, rfl, SqT.of gr, atI_nat (j := 1) rfl, .inl ⟨_, rfl, line1000 (by omega), _, rfl, line1000 (by simp only [strLen_append]; omega), q _ (Same.refl _)⟩⟩⟩
  | same x y =>
    obtain ⟨r, xs, rfl, gr, ds⟩ := td_tup td
    obtain ⟨v1, xs, rfl, d1, ds⟩ := tds_cons ds
    obtain ⟨v2, xs, rfl, d2, ds⟩ := tds_cons ds
    obtain ⟨v3, rfl, d3⟩ := tds1 ds
    cases d1; cases d2; cases d3
    have hx : Nm x ∧ Nm y := tn
    have := hx.1.1
    have := hx.2.1
    refine ⟨_, rfl, r, _, _, _, rfl, rfl, SqT.of gr, atI_nat (j := 0) rfl, rfl, _, rfl, ite2 (fun h => absurd h (by decide)) (fun _ => ?_)⟩
    refine ⟨_, rfl, r, _, _, _, rfl, rfl, SqT.of gr, atI_nat (j := 0) rfl, rfl, _, rfl, ite2 (fun _ => ?_) (fun h => absurd (by decide) h)⟩
    exact ⟨_, rfl, r, _, _, _, rfl, rfl, SqT.of gr, atI_nat (j := 1) rfl, .inl ⟨_, rfl, line1000 (by omega), _, rfl, line1000 (by simp only [strLen_append]; omega), _, rfl, line1000 (by simp only [strLen_append]; omega), _, rfl, r, _, _, _, rfl, rfl, SqT.of gr, atI_nat (j := 2) rfl, .inl ⟨_, rfl, line1000 (by omega), _, rfl, line1000 (by simp only [strLen_append]; omega), q _ (Same.refl _)⟩⟩⟩
  | full x f =>
    obtain ⟨r, xs, rfl, gr, ds⟩ := td_tup td
    obtain ⟨v1, xs, rfl, d1, ds⟩ := tds_cons ds
    obtain ⟨v2, xs, rfl, d2, ds⟩ := tds_cons ds
    obtain ⟨v3, rfl, d3⟩ := tds1 ds
    cases d1; cases d2; cases d3
    have hx : Nm x ∧ Nm f := tn
    have := hx.1.1
    have := hx.2.1
    refine ⟨_, rfl, r, _, _, _, rfl, rfl, SqT.of gr, atI_nat (j := 0) rfl, rfl, _, rfl, ite2 (fun h => absurd h (by decide)) (fun _ => ?_)⟩
    refine ⟨_, rfl, r, _, _, _, rfl, rfl, SqT.of gr, atI_nat (j := 0) rfl, rfl, _, rfl, ite2 (fun h => absurd h (by decide)) (fun _ => ?_)⟩
    refine ⟨_, rfl, r, _, _, _, rfl, rfl, SqT.of gr, atI_nat (j := 0) rfl, rfl, _, rfl, ite2 (fun _ => ?_) (fun h => absurd (by decide) h)⟩
    exact ⟨_, rfl, line1000 (by simp only [strLen_append]; omega), _, rfl, r, _, _, _, rfl, rfl, SqT.of gr, atI_nat (j := 1) rfl, .inl ⟨_, rfl, line1000 (by omega), _, rfl, line1000 (by simp only [strLen_append]; omega), _, rfl, line1000 (by simp only [strLen_append]; omega), _, rfl, r, _, _, _, rfl, rfl, SqT.of gr, atI_nat (j := 2) rfl, .inl ⟨_, rfl, line1000 (by omega), _, rfl, line1000 (by simp only [strLen_append]; omega), q _ (Same.refl _)⟩⟩⟩
  | wished x =>
    obtain ⟨r, xs, rfl, gr, ds⟩ := td_tup td
    obtain ⟨v1, xs, rfl, d1, ds⟩ := tds_cons ds
    obtain ⟨v2, rfl, d2⟩ := tds1 ds
    cases d1; cases d2
    have hx : Nm x := tn
    have := hx.1
    refine ⟨_, rfl, r, _, _, _, rfl, rfl, SqT.of gr, atI_nat (j := 0) rfl, rfl, _, rfl, ite2 (fun h => absurd h (by decide)) (fun _ => ?_)⟩
    refine ⟨_, rfl, r, _, _, _, rfl, rfl, SqT.of gr, atI_nat (j := 0) rfl, rfl, _, rfl, ite2 (fun h => absurd h (by decide)) (fun _ => ?_)⟩
    refine ⟨_, rfl, r, _, _, _, rfl, rfl, SqT.of gr, atI_nat (j := 0) rfl, rfl, _, rfl, ite2 (fun h => absurd h (by decide)) (fun _ => ?_)⟩
    exact ⟨_, rfl, r, _, _, _, rfl, rfl, SqT.of gr, atI_nat (j := 0) rfl, .inl ⟨_, rfl, line1000 (by omega), _, rfl, line1000 (by simp only [strLen_append]; omega), _, rfl, line1000 (by simp only [strLen_append]; omega), _, rfl, r, _, _, _, rfl, rfl, SqT.of gr, atI_nat (j := 1) rfl, .inl ⟨_, rfl, line1000 (by omega), _, rfl, line1000 (by simp only [strLen_append]; omega), q _ (Same.refl _)⟩⟩⟩
  | not t => exact absurd t0 (by show ¬ t.depth + 1 ≤ 0; omega)
theorem ok_wtS {f : Addr} {fd : FuncData} {d k : Nat} (F : Fun K "written_test" "written_test" s_written_test f fd) (m : mg "written_test" = some (.ref f)) (b : Binds K fd ["test"] []) (G : FnOk P w K mg base CX0 k f fd ["test"] (spWT d)) : FnOk P w K mg base CX0 (k + 1) f fd ["test"] (spWT (d + 1)) := by
  refine F.ok sc_written_test (fun vs H Q E ⟨v, t, ev, _⟩ => by rw [ev]; rfl) (fun cdv A outer s H vs Q E hr ⟨v, t, ev, td, tn, t0, t3, q⟩ => ?_)
  subst ev
  refine ⟨_, (pss_cons (ps_if (pt_cmpR op_eq (pe_ix ix_tup (pv 0) pe_int (fun _ _ => rfl)) pe_str (nomark _))
      (pss_one (ps_ret (pe_op op_add_str pe_str (pe_call G hr (by rfl) m F.kp b .nil pass0 (pa_cons (pe_ix ix_tup (pv 0) pe_int (fun _ _ => rfl)) pa_nil)))))
      pss_nil)
      (pss_cons (ps_if (pt_cmpR op_eq (pe_ix ix_tup (pv 0) pe_int (fun _ _ => rfl)) pe_str (nomark _))
      (pss_one (ps_ret (pe_joined (.cons (pe_fmt (pe_ix ix_tup (pv 0) pe_int (fun _ _ => rfl))) (.cons pe_str (.cons (pe_fmt (pe_ix ix_tup (pv 0) pe_int (fun _ _ => rfl))) .nil))))))
      pss_nil)
      (pss_cons (ps_if (pt_cmpR op_eq (pe_ix ix_tup (pv 0) pe_int (fun _ _ => rfl)) pe_str (nomark _))
      (pss_one (ps_ret (pe_joined (.cons pe_str (.cons (pe_fmt (pe_ix ix_tup (pv 0) pe_int (fun _ _ => rfl))) (.cons pe_str (.cons (pe_fmt (pe_ix ix_tup (pv 0) pe_int (fun _ _ => rfl))) .nil)))))))
      pss_nil)
      (pss_one (ps_ret (pe_joined (.cons (pe_fmt (pe_ix ix_tup (pv 0) pe_int (fun _ _ => rfl))) (.cons pe_str (.cons (pe_fmt (pe_ix ix_tup (pv 0) pe_int (fun _ _ => rfl))) .nil))))))))), ?_⟩
  have q0 := e_len
  have q1 : (Str.ofString "given").length = 5 := rfl
  have q2 : (Str.ofString " ").length = 1 := rfl
  have q3 : (Str.ofString " is ").length = 4 := rfl
  have q4 : (Str.ofString "full ").length = 5 := rfl
  have q5 : (Str.ofString ".").length = 1 := rfl
  have q6 : (Str.ofString "not ").length = 4 := rfl
  have q7 : (Str.ofString "set").length = 3 := rfl
  have q8 : (Str.ofString "wished").length = 6 := rfl
  cases t with
  | given i =>
    obtain ⟨r, xs, rfl, gr, ds⟩ := td_tup td
    obtain ⟨v1, xs, rfl, d1, ds⟩ := tds_cons ds
    obtain ⟨v2, rfl, d2⟩ := tds1 ds
    cases d1; cases d2
    have hi : i < 4 := tn
    have hl : (Str.ofString (toString (i : Int))).length ≤ 2 := intS_len i (by omega)
    refine ⟨_, rfl, r, _, _, _, rfl, rfl, SqT.of gr, atI_nat (j := 0) rfl, rfl, _, rfl, ite2 (fun h => absurd h (by decide)) (fun _ => ?_)⟩
    refine ⟨_, rfl, r, _, _, _, rfl, rfl, SqT.of gr, atI_nat (j := 0) rfl, rfl, _, rfl, ite2 (fun h => absurd h (by decide)) (fun _ => ?_)⟩
    refine ⟨_, rfl, r, _, _, _, rfl, rfl, SqT.of gr, atI_nat (j := 0) rfl, rfl, _, rfl, ite2 (fun h => absurd h (by decide)) (fun _ => ?_)⟩
    exact ⟨_, rfl, r, _, _, _, rfl, rfl, SqT.of gr, atI_nat (j := 0) rfl, .inl ⟨_, rfl, line1000 (by omega), _, rfl, line1000 (by simp only [strLen_append]; omega), _, rfl, line1000 (by simp only [strLen_append]; omega), _, rfl, r, _, _, _, rfl, rfl, SqT.of gr, atI_nat (j := 1) rfl, .inr ⟨_, rfl, log4 hi, _, rfl, line1000 (by simp only [strLen_append]; omega), q _ (Same.refl _)⟩⟩⟩
  | set x =>
    obtain ⟨r, xs, rfl, gr, ds⟩ := td_tup td
    obtain ⟨v1, xs, rfl, d1, ds⟩ := tds_cons ds
    obtain ⟨v2, rfl, d2⟩ := tds1 ds
    cases d1; cases d2
    have hx : Nm x := tn
    have := hx.1
    refine ⟨_, rfl, r, _, _, _, rfl, rfl, SqT.of gr, atI_nat (j := 0) rfl, rfl, _, rfl, ite2 (fun h => absurd h (by decide)) (fun _ => ?_)⟩
    refine ⟨_, rfl, r, _, _, _, rfl, rfl, SqT.of gr, atI_nat (j := 0) rfl, rfl, _, rfl, ite2 (fun h => absurd h (by decide)) (fun _ => ?_)⟩
    refine ⟨_, rfl, r, _, _, _, rfl, rfl, SqT.of gr, atI_nat (j := 0) rfl, rfl, _, rfl, ite2 (fun h => absurd h (by decide)) (fun _ => ?_)⟩
    exact ⟨_, rfl, r, _, _, _, rfl, rfl, SqT.of gr, atI_nat (j := 0) rfl, .inl ⟨_, rfl, line1000 (by omega), _, rfl, line1000 (by simp only [strLen_append]; omega), _, rfl, line1000 (by simp only [strLen_append]; omega), _, rfl, r, _, _, _, rfl, rfl, SqT.of gr, atI_nat (j := 1) rfl, .inl ⟨_, rfl, line1000 (by omega), _, rfl, line1000 (by simp only [strLen_append]; omega), q _ (Same.refl _)⟩⟩⟩
  | same x y =>
    obtain ⟨r, xs, rfl, gr, ds⟩ := td_tup td
    obtain ⟨v1, xs, rfl, d1, ds⟩ := tds_cons ds
    obtain ⟨v2, xs, rfl, d2, ds⟩ := tds_cons ds
    obtain ⟨v3, rfl, d3⟩ := tds1 ds
    cases d1; cases d2; cases d3
    have hx : Nm x ∧ Nm y := tn
    have := hx.1.1
    have := hx.2.1
    refine ⟨_, rfl, r, _, _, _, rfl, rfl, SqT.of gr, atI_nat (j := 0) rfl, rfl, _, rfl, ite2 (fun h => absurd h (by decide)) (fun _ => ?_)⟩
    refine ⟨_, rfl, r, _, _, _, rfl, rfl, SqT.of gr, atI_nat (j := 0) rfl, rfl, _, rfl, ite2 (fun _ => ?_) (fun h => absurd (by decide) h)⟩
    exact ⟨_, rfl, r, _, _, _, rfl, rfl, SqT.of gr, atI_nat (j := 1) rfl, .inl ⟨_, rfl, line1000 (by omega), _, rfl, line1000 (by simp only [strLen_append]; omega), _, rfl, line1000 (by simp only [strLen_append]; omega), _, rfl, r, _, _, _, rfl, rfl, SqT.of gr, atI_nat (j := 2) rfl, .inl ⟨_, rfl, line1000 (by omega), _, rfl, line1000 (by simp only [strLen_append]; omega), q _ (Same.refl _)⟩⟩⟩
  | full x f =>
    obtain ⟨r, xs, rfl, gr, ds⟩ := td_tup td
    obtain ⟨v1, xs, rfl, d1, ds⟩ := tds_cons ds
    obtain ⟨v2, xs, rfl, d2, ds⟩ := tds_cons ds
    obtain ⟨v3, rfl, d3⟩ := tds1 ds
    cases d1; cases d2; cases d3
    have hx : Nm x ∧ Nm f := tn
    have := hx.1.1
    have := hx.2.1
    refine ⟨_, rfl, r, _, _, _, rfl, rfl, SqT.of gr, atI_nat (j := 0) rfl, rfl, _, rfl, ite2 (fun h => absurd h (by decide)) (fun _ => ?_)⟩
    refine ⟨_, rfl, r, _, _, _, rfl, rfl, SqT.of gr, atI_nat (j := 0) rfl, rfl, _, rfl, ite2 (fun h => absurd h (by decide)) (fun _ => ?_)⟩
    refine ⟨_, rfl, r, _, _, _, rfl, rfl, SqT.of gr, atI_nat (j := 0) rfl, rfl, _, rfl, ite2 (fun _ => ?_) (fun h => absurd (by decide) h)⟩
    exact ⟨_, rfl, line1000 (by simp only [strLen_append]; omega), _, rfl, r, _, _, _, rfl, rfl, SqT.of gr, atI_nat (j := 1) rfl, .inl ⟨_, rfl, line1000 (by omega), _, rfl, line1000 (by simp only [strLen_append]; omega), _, rfl, line1000 (by simp only [strLen_append]; omega), _, rfl, r, _, _, _, rfl, rfl, SqT.of gr, atI_nat (j := 2) rfl, .inl ⟨_, rfl, line1000 (by omega), _, rfl, line1000 (by simp only [strLen_append]; omega), q _ (Same.refl _)⟩⟩⟩
  | wished x =>
    obtain ⟨r, xs, rfl, gr, ds⟩ := td_tup td
    obtain ⟨v1, xs, rfl, d1, ds⟩ := tds_cons ds
    obtain ⟨v2, rfl, d2⟩ := tds1 ds
    cases d1; cases d2
    have hx : Nm x := tn
    have := hx.1
    refine ⟨_, rfl, r, _, _, _, rfl, rfl, SqT.of gr, atI_nat (j := 0) rfl, rfl, _, rfl, ite2 (fun h => absurd h (by decide)) (fun _ => ?_)⟩
    refine ⟨_, rfl, r, _, _, _, rfl, rfl, SqT.of gr, atI_nat (j := 0) rfl, rfl, _, rfl, ite2 (fun h => absurd h (by decide)) (fun _ => ?_)⟩
    refine ⟨_, rfl, r, _, _, _, rfl, rfl, SqT.of gr, atI_nat (j := 0) rfl, rfl, _, rfl, ite2 (fun h => absurd h (by decide)) (fun _ => ?_)⟩
    exact ⟨_, rfl, r, _, _, _, rfl, rfl, SqT.of gr, atI_nat (j := 0) rfl, .inl ⟨_, rfl, line1000 (by omega), _, rfl, line1000 (by simp only [strLen_append]; omega), _, rfl, line1000 (by simp only [strLen_append]; omega), _, rfl, r, _, _, _, rfl, rfl, SqT.of gr, atI_nat (j := 1) rfl, .inl ⟨_, rfl, line1000 (by omega), _, rfl, line1000 (by simp only [strLen_append]; omega), q _ (Same.refl _)⟩⟩⟩
  | not t => 
    obtain ⟨r, xs, rfl, gr, ds⟩ := td_tup td
    obtain ⟨v1, xs, rfl, d1, ds⟩ := tds_cons ds
    obtain ⟨v2, rfl, d2⟩ := tds1 ds
    cases d1
    have tl := tst_len (t := t) tn
    have t4 : t.depth + 1 ≤ 3 := t3
    have td5 : t.depth + 1 ≤ d + 1 := t0
    refine ⟨_, rfl, r, _, _, _, rfl, rfl, SqT.of gr, atI_nat (j := 0) rfl, rfl, _, rfl, ite2 (fun _ => ?_) (fun h => absurd (by decide) h)⟩
    exact ⟨_, rfl, r, _, _, _, rfl, rfl, SqT.of gr, atI_nat (j := 1) rfl, _, t, rfl, d2, tn, by omega, by omega, fun H' s' => ⟨_, _, rfl, rfl, line1000 (by omega), q H' s'⟩⟩
theorem ok_wt {f : Addr} {fd : FuncData} (F : Fun K "written_test" "written_test" s_written_test f fd) (m : mg "written_test" = some (.ref f)) (b : Binds K fd ["test"] []) : ∀ d, FnOk P w K mg base CX0 (d + 1) f fd ["test"] (spWT d)
  | 0 => ok_wt0 F
  | d + 1 => ok_wtS F m b (ok_wt F m b d)
end
end G

set_option Elab.async false
set_option linter.all false
set_option maxRecDepth 100000
set_option maxHeartbeats 4000000
/-! k06: a line of a statement. Written by mkU7.py. -/
namespace G
open PySem PySem.Spec PyProof.Rows L2
def lineOf : Sta → Str
  | .act (.make x) => Str.empty ++ Str.ofString "make" ++ Str.ofString " " ++ x
  | .act (.keep x) => Str.empty ++ Str.ofString "keep" ++ Str.ofString " " ++ x
  | .act (.drop x) => Str.empty ++ Str.ofString "drop" ++ Str.ofString " " ++ x
  | .act (.say x) => Str.empty ++ Str.ofString "say" ++ Str.ofString " " ++ x
  | .act (.name x y) => Str.empty ++ x ++ Str.ofString " = " ++ y
  | .act (.take z x f) => Str.empty ++ z ++ Str.ofString " = " ++ x ++ Str.ofString "." ++ f
  | .act (.hold x f y) => Str.empty ++ x ++ Str.ofString "." ++ f ++ Str.ofString " = " ++ y
  | .act (.weak x f y) => Str.empty ++ x ++ Str.ofString "." ++ f ++ Str.ofString " ~ " ++ y
  | .act (.cut x f) => Str.empty ++ Str.ofString "cut " ++ x ++ Str.ofString "." ++ f
  | .act (.wish x v) => Str.empty ++ Str.ofString "wish " ++ x ++ Str.ofString " " ++ v
  | .act (.ask t) => Str.empty ++ Str.ofString "ask" ++ Str.ofString " " ++ tstText t
  | .cond t _ _ => Str.empty ++ Str.ofString "if" ++ Str.ofString " " ++ tstText t
  | .rep k _ => Str.empty ++ Str.ofString "repeat" ++ Str.ofString " " ++ intS k
section
variable {P : Program} {w : World} {K : PySem.W.Frag} {mg : Str → Option Value} {base : Heap}
abbrev s_line_of : Stmt := top 2
abbrev n_line_of : List Str := ["statement", "word"]
theorem sc_line_of : FnScope n_line_of ["statement"] (defScope s_line_of) := ⟨rfl, rfl, rfl, by decide +kernel, rfl, by decide +kernel, by decide +kernel⟩
theorem log13 {i : Nat} (h : i < 13) : ((i : Nat) : Int).natAbs.log2 < 1920 := Nat.lt_of_le_of_lt (Nat.log2_le_self _) (by omega)
def spLine : Sp := fun vs H Q _ => ∃ (v : V) (s : Sta) (d : Nat), vs = [v] ∧ TD H v s.data ∧ StaOk d s ∧ ∀ H', Same H H' → Q (.str (lineOf s)) H'
theorem ok_line {f fW : Addr} {fd dW : FuncData} (F : Fun K "line_of" "line_of" s_line_of f fd) (mW : mg "written_test" = some (.ref fW)) (kW : PySem.W.keepIn K (.ref fW) = true) (bW : Binds K dW ["test"] []) (GW : FnOk P w K mg base CX0 4 fW dW ["test"] (spWT 3)) : FnOk P w K mg base CX0 5 f fd ["statement"] spLine := by
  refine F.ok sc_line_of (fun vs H Q E ⟨v, s, d, ev, _⟩ => by rw [ev]; rfl) (fun cdv A outer s0 H vs Q E hr ⟨v, s, d, ev, td, ok, q⟩ => ?_)
  subst ev
  refine ⟨_, (pss_cons (ps_set (i := 1) sc_line_of.nd rfl (.inl rfl) (pe_ix ix_tup (pv 0) pe_int (fun _ _ => rfl)))
      (pss_cons (ps_if (pt_cmpR op_eq (pv 1) pe_str (nomark _))
      (pss_one (ps_ret (pe_joined (.cons (pe_fmt (pe_ix ix_tup (pv 0) pe_int (fun _ _ => rfl))) (.cons pe_str (.cons (pe_fmt (pe_ix ix_tup (pv 0) pe_int (fun _ _ => rfl))) .nil))))))
      pss_nil)
      (pss_cons (ps_if (pt_cmpR op_eq (pv 1) pe_str (nomark _))
      (pss_one (ps_ret (pe_joined (.cons (pe_fmt (pe_ix ix_tup (pv 0) pe_int (fun _ _ => rfl))) (.cons pe_str (.cons (pe_fmt (pe_ix ix_tup (pv 0) pe_int (fun _ _ => rfl))) (.cons pe_str (.cons (pe_fmt (pe_ix ix_tup (pv 0) pe_int (fun _ _ => rfl))) .nil))))))))
      pss_nil)
      (pss_cons (ps_if (pt_cmpR op_eq (pv 1) pe_str (nomark _))
      (pss_one (ps_ret (pe_joined (.cons (pe_fmt (pe_ix ix_tup (pv 0) pe_int (fun _ _ => rfl))) (.cons pe_str (.cons (pe_fmt (pe_ix ix_tup (pv 0) pe_int (fun _ _ => rfl))) (.cons pe_str (.cons (pe_fmt (pe_ix ix_tup (pv 0) pe_int (fun _ _ => rfl))) .nil))))))))
      pss_nil)
      (pss_cons (ps_if (pt_cmpR op_eq (pv 1) pe_str (nomark _))
      (pss_one (ps_ret (pe_joined (.cons (pe_fmt (pe_ix ix_tup (pv 0) pe_int (fun _ _ => rfl))) (.cons pe_str (.cons (pe_fmt (pe_ix ix_tup (pv 0) pe_int (fun _ _ => rfl))) (.cons pe_str (.cons (pe_fmt (pe_ix ix_tup (pv 0) pe_int (fun _ _ => rfl))) .nil))))))))
      pss_nil)
      (pss_cons (ps_if (pt_cmpR op_eq (pv 1) pe_str (nomark _))
      (pss_one (ps_ret (pe_joined (.cons pe_str (.cons (pe_fmt (pe_ix ix_tup (pv 0) pe_int (fun _ _ => rfl))) (.cons pe_str (.cons (pe_fmt (pe_ix ix_tup (pv 0) pe_int (fun _ _ => rfl))) .nil)))))))
      pss_nil)
      (pss_cons (ps_if (pt_cmpR op_eq (pv 1) pe_str (nomark _))
      (pss_one (ps_ret (pe_joined (.cons pe_str (.cons (pe_fmt (pe_ix ix_tup (pv 0) pe_int (fun _ _ => rfl))) (.cons pe_str (.cons (pe_fmt (pe_ix ix_tup (pv 0) pe_int (fun _ _ => rfl))) .nil)))))))
      pss_nil)
      (pss_cons (ps_if (pt_cmpR op_in_seq (pv 1) (pe_tup (pa_cons pe_str (pa_cons pe_str pa_nil))) (by rfl))
      (pss_one (ps_ret (pe_joined (.cons (pe_fmt (pv 1)) (.cons pe_str (.cons (pe_fmt (pe_call GW hr (by rfl) mW kW bW .nil pass0 (pa_cons (pe_ix ix_tup (pv 0) pe_int (fun _ _ => rfl)) pa_nil))) .nil))))))
      pss_nil)
      (pss_one (ps_ret (pe_joined (.cons (pe_fmt (pv 1)) (.cons pe_str (.cons (pe_fmt (pe_ix ix_tup (pv 0) pe_int (fun _ _ => rfl))) .nil)))))))))))))), ?_⟩
  have q0 := e_len
  have z0 : (Str.ofString " ").length = 1 := rfl
  have z1 : (Str.ofString " = ").length = 3 := rfl
  have z2 : (Str.ofString " ~ ").length = 3 := rfl
  have z3 : (Str.ofString ".").length = 1 := rfl
  have z4 : (Str.ofString "ask").length = 3 := rfl
  have z5 : (Str.ofString "cut").length = 3 := rfl
  have z6 : (Str.ofString "cut ").length = 4 := rfl
  have z7 : (Str.ofString "drop").length = 4 := rfl
  have z8 : (Str.ofString "hold").length = 4 := rfl
  have z9 : (Str.ofString "if").length = 2 := rfl
  have z10 : (Str.ofString "keep").length = 4 := rfl
  have z11 : (Str.ofString "make").length = 4 := rfl
  have z12 : (Str.ofString "name").length = 4 := rfl
  have z13 : (Str.ofString "repeat").length = 6 := rfl
  have z14 : (Str.ofString "say").length = 3 := rfl
  have z15 : (Str.ofString "take").length = 4 := rfl
  have z16 : (Str.ofString "weak").length = 4 := rfl
  have z17 : (Str.ofString "wish").length = 4 := rfl
  have z18 : (Str.ofString "wish ").length = 5 := rfl
  cases s with
  | act b =>
    have ok : b.nm := by cases d <;> exact ok
    cases b with
    | make x =>
      obtain ⟨r, xs, rfl, gr, ds⟩ := td_tup td
      obtain ⟨v1, xs, rfl, d1, ds⟩ := tds_cons ds
      obtain ⟨v2, rfl, d2⟩ := tds1 ds
      cases d1; cases d2
      have ok : Nm x := ok
      have := ok.1
      refine ⟨_, rfl, r, _, _, _, rfl, rfl, SqT.of gr, atI_nat (j := 0) rfl, ?_⟩
      refine ⟨_, rfl, rfl, _, rfl, ite2 (fun h => absurd h (by decide)) (fun _ => ?_)⟩
      refine ⟨_, rfl, rfl, _, rfl, ite2 (fun h => absurd h (by decide)) (fun _ => ?_)⟩
      refine ⟨_, rfl, rfl, _, rfl, ite2 (fun h => absurd h (by decide)) (fun _ => ?_)⟩
      refine ⟨_, rfl, rfl, _, rfl, ite2 (fun h => absurd h (by decide)) (fun _ => ?_)⟩
      refine ⟨_, rfl, rfl, _, rfl, ite2 (fun h => absurd h (by decide)) (fun _ => ?_)⟩
      refine ⟨_, rfl, rfl, _, rfl, ite2 (fun h => absurd h (by decide)) (fun _ => ?_)⟩
      refine ⟨_, rfl, line1000 (Nat.le_of_ble_eq_true rfl), fun t0 n0 => ⟨t0, _, rfl, .inr (SqT.of upd_same), rfl, rfl, _, rfl, ite2 (fun h => absurd h (by decide +kernel)) (fun _ => ?_)⟩⟩
      have s1 := Same.up (o := HO.tup [V.str "ask", V.str "if"]) n0
      exact ⟨_, rfl, .inl ⟨_, rfl, line1000 (by omega), _, rfl, line1000 (by simp only [strLen_append]; omega), _, rfl, line1000 (by simp only [strLen_append]; omega), _, rfl, r, _, _, _, rfl, rfl, SqT.of (s1 _ _ gr), atI_nat (j := 1) rfl, .inl ⟨_, rfl, line1000 (by omega), _, rfl, line1000 (by simp only [strLen_append]; omega), q _ (s1)⟩⟩⟩
    | keep x =>
      obtain ⟨r, xs, rfl, gr, ds⟩ := td_tup td
      obtain ⟨v1, xs, rfl, d1, ds⟩ := tds_cons ds
      obtain ⟨v2, rfl, d2⟩ := tds1 ds
      cases d1; cases d2
      have ok : Nm x := ok
      have := ok.1
      refine ⟨_, rfl, r, _, _, _, rfl, rfl, SqT.of gr, atI_nat (j := 0) rfl, ?_⟩
      refine ⟨_, rfl, rfl, _, rfl, ite2 (fun h => absurd h (by decide)) (fun _ => ?_)⟩
      refine ⟨_, rfl, rfl, _, rfl, ite2 (fun h => absurd h (by decide)) (fun _ => ?_)⟩
      refine ⟨_, rfl, rfl, _, rfl, ite2 (fun h => absurd h (by decide)) (fun _ => ?_)⟩
      refine ⟨_, rfl, rfl, _, rfl, ite2 (fun h => absurd h (by decide)) (fun _ => ?_)⟩
      refine ⟨_, rfl, rfl, _, rfl, ite2 (fun h => absurd h (by decide)) (fun _ => ?_)⟩
      refine ⟨_, rfl, rfl, _, rfl, ite2 (fun h => absurd h (by decide)) (fun _ => ?_)⟩
      refine ⟨_, rfl, line1000 (Nat.le_of_ble_eq_true rfl), fun t0 n0 => ⟨t0, _, rfl, .inr (SqT.of upd_same), rfl, rfl, _, rfl, ite2 (fun h => absurd h (by decide +kernel)) (fun _ => ?_)⟩⟩
      have s1 := Same.up (o := HO.tup [V.str "ask", V.str "if"]) n0
      exact ⟨_, rfl, .inl ⟨_, rfl, line1000 (by omega), _, rfl, line1000 (by simp only [strLen_append]; omega), _, rfl, line1000 (by simp only [strLen_append]; omega), _, rfl, r, _, _, _, rfl, rfl, SqT.of (s1 _ _ gr), atI_nat (j := 1) rfl, .inl ⟨_, rfl, line1000 (by omega), _, rfl, line1000 (by simp only [strLen_append]; omega), q _ (s1)⟩⟩⟩
    | drop x =>
      obtain ⟨r, xs, rfl, gr, ds⟩ := td_tup td
      obtain ⟨v1, xs, rfl, d1, ds⟩ := tds_cons ds
      obtain ⟨v2, rfl, d2⟩ := tds1 ds
      cases d1; cases d2
      have ok : Nm x := ok
      have := ok.1
      refine ⟨_, rfl, r, _, _, _, rfl, rfl, SqT.of gr, atI_nat (j := 0) rfl, ?_⟩
      refine ⟨_, rfl, rfl, _, rfl, ite2 (fun h => absurd h (by decide)) (fun _ => ?_)⟩
      refine ⟨_, rfl, rfl, _, rfl, ite2 (fun h => absurd h (by decide)) (fun _ => ?_)⟩
      refine ⟨_, rfl, rfl, _, rfl, ite2 (fun h => absurd h (by decide)) (fun _ => ?_)⟩
      refine ⟨_, rfl, rfl, _, rfl, ite2 (fun h => absurd h (by decide)) (fun _ => ?_)⟩
      refine ⟨_, rfl, rfl, _, rfl, ite2 (fun h => absurd h (by decide)) (fun _ => ?_)⟩
      refine ⟨_, rfl, rfl, _, rfl, ite2 (fun h => absurd h (by decide)) (fun _ => ?_)⟩
      refine ⟨_, rfl, line1000 (Nat.le_of_ble_eq_true rfl), fun t0 n0 => ⟨t0, _, rfl, .inr (SqT.of upd_same), rfl, rfl, _, rfl, ite2 (fun h => absurd h (by decide +kernel)) (fun _ => ?_)⟩⟩
      have s1 := Same.up (o := HO.tup [V.str "ask", V.str "if"]) n0
      exact ⟨_, rfl, .inl ⟨_, rfl, line1000 (by omega), _, rfl, line1000 (by simp only [strLen_append]; omega), _, rfl, line1000 (by simp only [strLen_append]; omega), _, rfl, r, _, _, _, rfl, rfl, SqT.of (s1 _ _ gr), atI_nat (j := 1) rfl, .inl ⟨_, rfl, line1000 (by omega), _, rfl, line1000 (by simp only [strLen_append]; omega), q _ (s1)⟩⟩⟩
    | say x =>
      obtain ⟨r, xs, rfl, gr, ds⟩ := td_tup td
      obtain ⟨v1, xs, rfl, d1, ds⟩ := tds_cons ds
      obtain ⟨v2, rfl, d2⟩ := tds1 ds
      cases d1; cases d2
      have ok : Nm x := ok
      have := ok.1
      refine ⟨_, rfl, r, _, _, _, rfl, rfl, SqT.of gr, atI_nat (j := 0) rfl, ?_⟩
      refine ⟨_, rfl, rfl, _, rfl, ite2 (fun h => absurd h (by decide)) (fun _ => ?_)⟩
      refine ⟨_, rfl, rfl, _, rfl, ite2 (fun h => absurd h (by decide)) (fun _ => ?_)⟩
      refine ⟨_, rfl, rfl, _, rfl, ite2 (fun h => absurd h (by decide)) (fun _ => ?_)⟩
      refine ⟨_, rfl, rfl, _, rfl, ite2 (fun h => absurd h (by decide)) (fun _ => ?_)⟩
      refine ⟨_, rfl, rfl, _, rfl, ite2 (fun h => absurd h (by decide)) (fun _ => ?_)⟩
      refine ⟨_, rfl, rfl, _, rfl, ite2 (fun h => absurd h (by decide)) (fun _ => ?_)⟩
      refine ⟨_, rfl, line1000 (Nat.le_of_ble_eq_true rfl), fun t0 n0 => ⟨t0, _, rfl, .inr (SqT.of upd_same), rfl, rfl, _, rfl, ite2 (fun h => absurd h (by decide +kernel)) (fun _ => ?_)⟩⟩
      have s1 := Same.up (o := HO.tup [V.str "ask", V.str "if"]) n0
      exact ⟨_, rfl, .inl ⟨_, rfl, line1000 (by omega), _, rfl, line1000 (by simp only [strLen_append]; omega), _, rfl, line1000 (by simp only [strLen_append]; omega), _, rfl, r, _, _, _, rfl, rfl, SqT.of (s1 _ _ gr), atI_nat (j := 1) rfl, .inl ⟨_, rfl, line1000 (by omega), _, rfl, line1000 (by simp only [strLen_append]; omega), q _ (s1)⟩⟩⟩
    | name x y =>
      obtain ⟨r, xs, rfl, gr, ds⟩ := td_tup td
      obtain ⟨v1, xs, rfl, d1, ds⟩ := tds_cons ds
      obtain ⟨v2, xs, rfl, d2, ds⟩ := tds_cons ds
      obtain ⟨v3, rfl, d3⟩ := tds1 ds
      cases d1; cases d2; cases d3
      have ok : Nm x ∧ Nm y := ok
      have := ok.1.1
      have := ok.2.1
      refine ⟨_, rfl, r, _, _, _, rfl, rfl, SqT.of gr, atI_nat (j := 0) rfl, ?_⟩
      refine ⟨_, rfl, rfl, _, rfl, ite2 (fun _ => ?_) (fun h => absurd (by decide) h)⟩
      exact ⟨_, rfl, r, _, _, _, rfl, rfl, SqT.of (gr), atI_nat (j := 1) rfl, .inl ⟨_, rfl, line1000 (by omega), _, rfl, line1000 (by simp only [strLen_append]; omega), _, rfl, line1000 (by simp only [strLen_append]; omega), _, rfl, r, _, _, _, rfl, rfl, SqT.of (gr), atI_nat (j := 2) rfl, .inl ⟨_, rfl, line1000 (by omega), _, rfl, line1000 (by simp only [strLen_append]; omega), q _ (Same.refl _)⟩⟩⟩
    | take z x f =>
      obtain ⟨r, xs, rfl, gr, ds⟩ := td_tup td
      obtain ⟨v1, xs, rfl, d1, ds⟩ := tds_cons ds
      obtain ⟨v2, xs, rfl, d2, ds⟩ := tds_cons ds
      obtain ⟨v3, xs, rfl, d3, ds⟩ := tds_cons ds
      obtain ⟨v4, rfl, d4⟩ := tds1 ds
      cases d1; cases d2; cases d3; cases d4
      have ok : Nm z ∧ Nm x ∧ Nm f := ok
      have := ok.1.1
      have := ok.2.1.1
      have := ok.2.2.1
      refine ⟨_, rfl, r, _, _, _, rfl, rfl, SqT.of gr, atI_nat (j := 0) rfl, ?_⟩
      refine ⟨_, rfl, rfl, _, rfl, ite2 (fun h => absurd h (by decide)) (fun _ => ?_)⟩
      refine ⟨_, rfl, rfl, _, rfl, ite2 (fun _ => ?_) (fun h => absurd (by decide) h)⟩
      exact ⟨_, rfl, r, _, _, _, rfl, rfl, SqT.of (gr), atI_nat (j := 1) rfl, .inl ⟨_, rfl, line1000 (by omega), _, rfl, line1000 (by simp only [strLen_append]; omega), _, rfl, line1000 (by simp only [strLen_append]; omega), _, rfl, r, _, _, _, rfl, rfl, SqT.of (gr), atI_nat (j := 2) rfl, .inl ⟨_, rfl, line1000 (by omega), _, rfl, line1000 (by simp only [strLen_append]; omega), _, rfl, line1000 (by simp only [strLen_append]; omega), _, rfl, r, _, _, _, rfl, rfl, SqT.of (gr), atI_nat (j := 3) rfl, .inl ⟨_, rfl, line1000 (by omega), _, rfl, line1000 (by simp only [strLen_append]; omega), q _ (Same.refl _)⟩⟩⟩⟩
    | hold x f y =>
      obtain ⟨r, xs, rfl, gr, ds⟩ := td_tup td
      obtain ⟨v1, xs, rfl, d1, ds⟩ := tds_cons ds
      obtain ⟨v2, xs, rfl, d2, ds⟩ := tds_cons ds
      obtain ⟨v3, xs, rfl, d3, ds⟩ := tds_cons ds
      obtain ⟨v4, rfl, d4⟩ := tds1 ds
      cases d1; cases d2; cases d3; cases d4
      have ok : Nm x ∧ Nm f ∧ Nm y := ok
      have := ok.1.1
      have := ok.2.1.1
      have := ok.2.2.1
      refine ⟨_, rfl, r, _, _, _, rfl, rfl, SqT.of gr, atI_nat (j := 0) rfl, ?_⟩
      refine ⟨_, rfl, rfl, _, rfl, ite2 (fun h => absurd h (by decide)) (fun _ => ?_)⟩
      refine ⟨_, rfl, rfl, _, rfl, ite2 (fun h => absurd h (by decide)) (fun _ => ?_)⟩
      refine ⟨_, rfl, rfl, _, rfl, ite2 (fun _ => ?_) (fun h => absurd (by decide) h)⟩
      exact ⟨_, rfl, r, _, _, _, rfl, rfl, SqT.of (gr), atI_nat (j := 1) rfl, .inl ⟨_, rfl, line1000 (by omega), _, rfl, line1000 (by simp only [strLen_append]; omega), _, rfl, line1000 (by simp only [strLen_append]; omega), _, rfl, r, _, _, _, rfl, rfl, SqT.of (gr), atI_nat (j := 2) rfl, .inl ⟨_, rfl, line1000 (by omega), _, rfl, line1000 (by simp only [strLen_append]; omega), _, rfl, line1000 (by simp only [strLen_append]; omega), _, rfl, r, _, _, _, rfl, rfl, SqT.of (gr), atI_nat (j := 3) rfl, .inl ⟨_, rfl, line1000 (by omega), _, rfl, line1000 (by simp only [strLen_append]; omega), q _ (Same.refl _)⟩⟩⟩⟩
    | weak x f y =>
      obtain ⟨r, xs, rfl, gr, ds⟩ := td_tup td
      obtain ⟨v1, xs, rfl, d1, ds⟩ := tds_cons ds
      obtain ⟨v2, xs, rfl, d2, ds⟩ := tds_cons ds
      obtain ⟨v3, xs, rfl, d3, ds⟩ := tds_cons ds
      obtain ⟨v4, rfl, d4⟩ := tds1 ds
      cases d1; cases d2; cases d3; cases d4
      have ok : Nm x ∧ Nm f ∧ Nm y := ok
      have := ok.1.1
      have := ok.2.1.1
      have := ok.2.2.1
      refine ⟨_, rfl, r, _, _, _, rfl, rfl, SqT.of gr, atI_nat (j := 0) rfl, ?_⟩
      refine ⟨_, rfl, rfl, _, rfl, ite2 (fun h => absurd h (by decide)) (fun _ => ?_)⟩
      refine ⟨_, rfl, rfl, _, rfl, ite2 (fun h => absurd h (by decide)) (fun _ => ?_)⟩
      refine ⟨_, rfl, rfl, _, rfl, ite2 (fun h => absurd h (by decide)) (fun _ => ?_)⟩
      refine ⟨_, rfl, rfl, _, rfl, ite2 (fun _ => ?_) (fun h => absurd (by decide) h)⟩
      exact ⟨_, rfl, r, _, _, _, rfl, rfl, SqT.of (gr), atI_nat (j := 1) rfl, .inl ⟨_, rfl, line1000 (by omega), _, rfl, line1000 (by simp only [strLen_append]; omega), _, rfl, line1000 (by simp only [strLen_append]; omega), _, rfl, r, _, _, _, rfl, rfl, SqT.of (gr), atI_nat (j := 2) rfl, .inl ⟨_, rfl, line1000 (by omega), _, rfl, line1000 (by simp only [strLen_append]; omega), _, rfl, line1000 (by simp only [strLen_append]; omega), _, rfl, r, _, _, _, rfl, rfl, SqT.of (gr), atI_nat (j := 3) rfl, .inl ⟨_, rfl, line1000 (by omega), _, rfl, line1000 (by simp only [strLen_append]; omega), q _ (Same.refl _)⟩⟩⟩⟩
    | cut x f =>
      obtain ⟨r, xs, rfl, gr, ds⟩ := td_tup td
      obtain ⟨v1, xs, rfl, d1, ds⟩ := tds_cons ds
      obtain ⟨v2, xs, rfl, d2, ds⟩ := tds_cons ds
      obtain ⟨v3, rfl, d3⟩ := tds1 ds
      cases d1; cases d2; cases d3
      have ok : Nm x ∧ Nm f := ok
      have := ok.1.1
      have := ok.2.1
      refine ⟨_, rfl, r, _, _, _, rfl, rfl, SqT.of gr, atI_nat (j := 0) rfl, ?_⟩
      refine ⟨_, rfl, rfl, _, rfl, ite2 (fun h => absurd h (by decide)) (fun _ => ?_)⟩
      refine ⟨_, rfl, rfl, _, rfl, ite2 (fun h => absurd h (by decide)) (fun _ => ?_)⟩
      refine ⟨_, rfl, rfl, _, rfl, ite2 (fun h => absurd h (by decide)) (fun _ => ?_)⟩
      refine ⟨_, rfl, rfl, _, rfl, ite2 (fun h => absurd h (by decide)) (fun _ => ?_)⟩
      refine ⟨_, rfl, rfl, _, rfl, ite2 (fun _ => ?_) (fun h => absurd (by decide) h)⟩
      exact ⟨_, rfl, line1000 (by simp only [strLen_append]; omega), _, rfl, r, _, _, _, rfl, rfl, SqT.of (gr), atI_nat (j := 1) rfl, .inl ⟨_, rfl, line1000 (by omega), _, rfl, line1000 (by simp only [strLen_append]; omega), _, rfl, line1000 (by simp only [strLen_append]; omega), _, rfl, r, _, _, _, rfl, rfl, SqT.of (gr), atI_nat (j := 2) rfl, .inl ⟨_, rfl, line1000 (by omega), _, rfl, line1000 (by simp only [strLen_append]; omega), q _ (Same.refl _)⟩⟩⟩
    | wish x v =>
      obtain ⟨r, xs, rfl, gr, ds⟩ := td_tup td
      obtain ⟨v1, xs, rfl, d1, ds⟩ := tds_cons ds
      obtain ⟨v2, xs, rfl, d2, ds⟩ := tds_cons ds
      obtain ⟨v3, rfl, d3⟩ := tds1 ds
      cases d1; cases d2; cases d3
      have ok : Nm x ∧ Nm v := ok
      have := ok.1.1
      have := ok.2.1
      refine ⟨_, rfl, r, _, _, _, rfl, rfl, SqT.of gr, atI_nat (j := 0) rfl, ?_⟩
      refine ⟨_, rfl, rfl, _, rfl, ite2 (fun h => absurd h (by decide)) (fun _ => ?_)⟩
      refine ⟨_, rfl, rfl, _, rfl, ite2 (fun h => absurd h (by decide)) (fun _ => ?_)⟩
      refine ⟨_, rfl, rfl, _, rfl, ite2 (fun h => absurd h (by decide)) (fun _ => ?_)⟩
      refine ⟨_, rfl, rfl, _, rfl, ite2 (fun h => absurd h (by decide)) (fun _ => ?_)⟩
      refine ⟨_, rfl, rfl, _, rfl, ite2 (fun h => absurd h (by decide)) (fun _ => ?_)⟩
      refine ⟨_, rfl, rfl, _, rfl, ite2 (fun _ => ?_) (fun h => absurd (by decide) h)⟩
      exact ⟨_, rfl, line1000 (by simp only [strLen_append]; omega), _, rfl, r, _, _, _, rfl, rfl, SqT.of (gr), atI_nat (j := 1) rfl, .inl ⟨_, rfl, line1000 (by omega), _, rfl, line1000 (by simp only [strLen_append]; omega), _, rfl, line1000 (by simp only [strLen_append]; omega), _, rfl, r, _, _, _, rfl, rfl, SqT.of (gr), atI_nat (j := 2) rfl, .inl ⟨_, rfl, line1000 (by omega), _, rfl, line1000 (by simp only [strLen_append]; omega), q _ (Same.refl _)⟩⟩⟩
    | ask t =>
      have ok : t.ok := ok
      obtain ⟨r, xs, rfl, gr, ds⟩ := td_tup td
      obtain ⟨v1, xs, rfl, d1, ds⟩ := tds_cons ds
      obtain ⟨v2, rfl, d2⟩ := tds1 ds
      cases d1
      have tl := tst_len (t := t) ok.1
      have t3 : t.depth ≤ 3 := ok.2
      refine ⟨_, rfl, r, _, _, _, rfl, rfl, SqT.of gr, atI_nat (j := 0) rfl, ?_⟩
      refine ⟨_, rfl, rfl, _, rfl, ite2 (fun h => absurd h (by decide)) (fun _ => ?_)⟩
      refine ⟨_, rfl, rfl, _, rfl, ite2 (fun h => absurd h (by decide)) (fun _ => ?_)⟩
      refine ⟨_, rfl, rfl, _, rfl, ite2 (fun h => absurd h (by decide)) (fun _ => ?_)⟩
      refine ⟨_, rfl, rfl, _, rfl, ite2 (fun h => absurd h (by decide)) (fun _ => ?_)⟩
      refine ⟨_, rfl, rfl, _, rfl, ite2 (fun h => absurd h (by decide)) (fun _ => ?_)⟩
      refine ⟨_, rfl, rfl, _, rfl, ite2 (fun h => absurd h (by decide)) (fun _ => ?_)⟩
      refine ⟨_, rfl, line1000 (Nat.le_of_ble_eq_true rfl), fun t0 n0 => ⟨t0, _, rfl, .inr (SqT.of upd_same), rfl, rfl, _, rfl, ite2 (fun _ => ?_) (fun h => absurd (by decide +kernel) h)⟩⟩
      have s1 := Same.up (o := HO.tup [V.str "ask", V.str "if"]) n0
      exact ⟨_, rfl, .inl ⟨_, rfl, line1000 (by omega), _, rfl, line1000 (by simp only [strLen_append]; omega), _, rfl, line1000 (by simp only [strLen_append]; omega), _, rfl, r, _, _, _, rfl, rfl, SqT.of (s1 _ _ gr), atI_nat (j := 1) rfl, _, t, rfl, TD.ch (Ch.same (S := []) s1) _ _ d2, ok.1, t3, t3, fun H2 s2 => .inl ⟨_, rfl, line1000 (by omega), _, rfl, line1000 (by simp only [strLen_append]; omega), q _ (Same.trans s1 s2)⟩⟩⟩
  | cond t y n =>
    have ok : t.ok := by
      cases d with
      | zero => exact ok.elim
      | succ d => exact ok.1
    obtain ⟨r, xs, rfl, gr, ds⟩ := td_tup td
    obtain ⟨v1, xs, rfl, d1, ds⟩ := tds_cons ds
    obtain ⟨v2, xs, rfl, d2, ds⟩ := tds_cons ds
    obtain ⟨v3, xs, rfl, d3, ds⟩ := tds_cons ds
    obtain ⟨v4, rfl, d4⟩ := tds1 ds
    cases d1
    have tl := tst_len (t := t) ok.1
    have t3 : t.depth ≤ 3 := ok.2
    refine ⟨_, rfl, r, _, _, _, rfl, rfl, SqT.of gr, atI_nat (j := 0) rfl, ?_⟩
    refine ⟨_, rfl, rfl, _, rfl, ite2 (fun h => absurd h (by decide)) (fun _ => ?_)⟩
    refine ⟨_, rfl, rfl, _, rfl, ite2 (fun h => absurd h (by decide)) (fun _ => ?_)⟩
    refine ⟨_, rfl, rfl, _, rfl, ite2 (fun h => absurd h (by decide)) (fun _ => ?_)⟩
    refine ⟨_, rfl, rfl, _, rfl, ite2 (fun h => absurd h (by decide)) (fun _ => ?_)⟩
    refine ⟨_, rfl, rfl, _, rfl, ite2 (fun h => absurd h (by decide)) (fun _ => ?_)⟩
    refine ⟨_, rfl, rfl, _, rfl, ite2 (fun h => absurd h (by decide)) (fun _ => ?_)⟩
    refine ⟨_, rfl, line1000 (Nat.le_of_ble_eq_true rfl), fun t0 n0 => ⟨t0, _, rfl, .inr (SqT.of upd_same), rfl, rfl, _, rfl, ite2 (fun _ => ?_) (fun h => absurd (by decide +kernel) h)⟩⟩
    have s1 := Same.up (o := HO.tup [V.str "ask", V.str "if"]) n0
    exact ⟨_, rfl, .inl ⟨_, rfl, line1000 (by omega), _, rfl, line1000 (by simp only [strLen_append]; omega), _, rfl, line1000 (by simp only [strLen_append]; omega), _, rfl, r, _, _, _, rfl, rfl, SqT.of (s1 _ _ gr), atI_nat (j := 1) rfl, _, t, rfl, TD.ch (Ch.same (S := []) s1) _ _ d2, ok.1, t3, t3, fun H2 s2 => .inl ⟨_, rfl, line1000 (by omega), _, rfl, line1000 (by simp only [strLen_append]; omega), q _ (Same.trans s1 s2)⟩⟩⟩
  | rep k b =>
    obtain ⟨r, xs, rfl, gr, ds⟩ := td_tup td
    obtain ⟨v1, xs, rfl, d1, ds⟩ := tds_cons ds
    obtain ⟨v2, xs, rfl, d2, ds⟩ := tds_cons ds
    obtain ⟨v3, rfl, d3⟩ := tds1 ds
    cases d1; cases d2
    have hk : k < 13 := by
      cases d with
      | zero => exact ok.elim
      | succ d => exact ok.1
    have hl : (Str.ofString (toString (k : Int))).length ≤ 2 := intS_len k (by omega)
    refine ⟨_, rfl, r, _, _, _, rfl, rfl, SqT.of gr, atI_nat (j := 0) rfl, ?_⟩
    refine ⟨_, rfl, rfl, _, rfl, ite2 (fun h => absurd h (by decide)) (fun _ => ?_)⟩
    refine ⟨_, rfl, rfl, _, rfl, ite2 (fun h => absurd h (by decide)) (fun _ => ?_)⟩
    refine ⟨_, rfl, rfl, _, rfl, ite2 (fun h => absurd h (by decide)) (fun _ => ?_)⟩
    refine ⟨_, rfl, rfl, _, rfl, ite2 (fun h => absurd h (by decide)) (fun _ => ?_)⟩
    refine ⟨_, rfl, rfl, _, rfl, ite2 (fun h => absurd h (by decide)) (fun _ => ?_)⟩
    refine ⟨_, rfl, rfl, _, rfl, ite2 (fun h => absurd h (by decide)) (fun _ => ?_)⟩
    refine ⟨_, rfl, line1000 (Nat.le_of_ble_eq_true rfl), fun t0 n0 => ⟨t0, _, rfl, .inr (SqT.of upd_same), rfl, rfl, _, rfl, ite2 (fun h => absurd h (by decide +kernel)) (fun _ => ?_)⟩⟩
    have s1 := Same.up (o := HO.tup [V.str "ask", V.str "if"]) n0
    exact ⟨_, rfl, .inl ⟨_, rfl, line1000 (by omega), _, rfl, line1000 (by simp only [strLen_append]; omega), _, rfl, line1000 (by simp only [strLen_append]; omega), _, rfl, r, _, _, _, rfl, rfl, SqT.of (s1 _ _ gr), atI_nat (j := 1) rfl, .inr ⟨_, rfl, log13 hk, _, rfl, line1000 (by simp only [strLen_append]; omega), q _ (s1)⟩⟩⟩
end
end G

set_option Elab.async false
set_option linter.all false
set_option maxRecDepth 100000
set_option maxHeartbeats 4000000
/-! A text so many times. -/
namespace G
open PySem PySem.Spec PyProof.Rows L2
def repS (z : Str) (n : Nat) : Str := ⟨(List.replicate n z.cps).foldl (· ++ ·) #[]⟩
theorem fold_app (x : Array Nat) : ∀ (l : List (Array Nat)), l.foldl (· ++ ·) x = x ++ l.foldl (· ++ ·) #[]
  | [] => by simp
  | y :: r => by
    show r.foldl _ (x ++ y) = x ++ r.foldl _ (#[] ++ y)
    rw [fold_app (x ++ y) r, fold_app (#[] ++ y) r]
    simp [Array.append_assoc]
theorem repS_succ (z : Str) (n : Nat) : repS z (n + 1) = repS z n ++ z := by
  unfold repS
  show Str.mk _ = Str.mk _
  congr 1
  rw [List.replicate_succ', List.foldl_append]
  rfl
theorem repS_len (z : Str) : ∀ n, (repS z n).length = n * z.length
  | 0 => by
    show (#[] : Array Nat).size = 0 * _
    simp
  | n + 1 => by
    rw [repS_succ, strLen_append, repS_len z n, Nat.succ_mul]
def rMulS : R2 := fun x y H Q => ∃ (z : Str) (n : Nat), x = .str z ∧ y = .int (n : Int) ∧ 0 < z.length ∧ z.length ≤ 100 ∧ n ≤ 100 ∧ Q (.str (repS z n)) H
theorem op_mulS {X : Cx} : OpR X (binaryOp .Mult) rMulS := by
  intro pins s σ H x y v u Q I rx ry h
  obtain ⟨z, n, rfl, rfl, h0, h1, h2, q⟩ := h
  obtain ⟨t, rfl⟩ := rx
  obtain ⟨t', rfl⟩ := ry
  have hz : z.length * n ≤ 100 * 100 := Nat.mul_le_mul h1 h2
  refine PySem.P.mul_str ?_ ?_ ?_ ?_
  · rw [decide_eq_false (by omega), decide_eq_false (by omega)]; rfl
  · intro a b c
    have hm : (z.length : Int) * (n : Int) ≤ 2 ^ 63 - 1 := by
      have hz' : ((z.length * n : Nat) : Int) ≤ 10000 := by omega
      rw [Int.natCast_mul] at hz'
      omega
    have := Int.le_ediv_of_mul_le (by omega : (0 : Int) < (n : Int)) hm
    omega
  · intro a b
    rw [Int.toNat_natCast]
    exact decide_eq_false (by rw [sizeLine_eq] at *; omega)
  · by_cases e0 : n = 0
    · subst e0
      rw [if_pos (by decide)]
      exact ⟨by decide, .str (repS z 0), H, I.tok _, ⟨_, rfl⟩, q⟩
    · rw [if_neg (by omega)]
      by_cases e1 : n = 1
      · subst e1
        rw [if_pos (by simp)]
        have e : repS z 1 = z := by
          rw [repS_succ]
          show Str.mk (#[] ++ z.cps) = z
          simp
        rw [e] at q
        exact ⟨.str z, H, I, ⟨_, rfl⟩, q⟩
      · rw [if_neg (by simp; omega)]
        rw [Int.toNat_natCast]
        refine ⟨?_, .str (repS z n), H, I.tok _, ⟨_, rfl⟩, q⟩
        show (repS z n).length ≤ sizeLine
        rw [repS_len, Nat.mul_comm]
        exact Nat.le_of_lt (lt_line (by omega))
end G

set_option Elab.async false
set_option linter.all false
set_option maxRecDepth 100000
set_option maxHeartbeats 4000000
/-! k06: the lines of a block. -/
namespace G
open PySem PySem.Spec PyProof.Rows L2
def ind (k : Nat) : Str := repS (Str.ofString "  ") k
def passL (k : Nat) (b : List Sta) : List Str := if b.isEmpty then [ind k ++ Str.ofString "pass"] else []
def elseL (k : Nat) (b : List Sta) : List Str := if b.isEmpty then [] else [ind k ++ Str.ofString "else"]
mutual
def staLines : Nat → Sta → List Str
  | k, .act a => [ind k ++ lineOf (.act a)]
  | k, .cond t y n => [ind k ++ lineOf (.cond t y n)] ++ blkLines (k + 1) y ++ passL (k + 1) y ++ elseL k n ++ blkLines (k + 1) n
  | k, .rep c b => [ind k ++ lineOf (.rep c b)] ++ blkLines (k + 1) b ++ passL (k + 1) b
def blkLines : Nat → List Sta → List Str
  | _, [] => []
  | k, s :: r => staLines k s ++ blkLines k r
end
theorem blkLines_snoc (k : Nat) (s : Sta) : ∀ b : List Sta, blkLines k (b ++ [s]) = blkLines k b ++ staLines k s
  | [] => by show staLines k s ++ [] = [] ++ staLines k s; rw [List.append_nil]; rfl
  | x :: r => by
    show staLines k x ++ blkLines k (r ++ [s]) = staLines k x ++ blkLines k r ++ staLines k s
    rw [blkLines_snoc k s r, List.append_assoc]
theorem passL_len (k : Nat) (b : List Sta) : (passL k b).length ≤ 1 := by unfold passL; split <;> simp
theorem elseL_len (k : Nat) (b : List Sta) : (elseL k b).length ≤ 1 := by unfold elseL; split <;> simp
mutual
theorem staLines_len : ∀ (k : Nat) (s : Sta), (staLines k s).length ≤ 3 * s.size
  | k, .act a => by show 1 ≤ 3 * 1; omega
  | k, .cond t y n => by
    have h1 := blkLines_len (k + 1) y
    have h2 := blkLines_len (k + 1) n
    have h3 := passL_len (k + 1) y
    have h4 := elseL_len k n
    show ([ind k ++ lineOf (.cond t y n)] ++ blkLines (k + 1) y ++ passL (k + 1) y ++ elseL k n ++ blkLines (k + 1) n).length ≤ 3 * (1 + (sizeB y + sizeB n))
    simp only [List.length_append, List.length_cons, List.length_nil]
    omega
  | k, .rep c b => by
    have h1 := blkLines_len (k + 1) b
    have h3 := passL_len (k + 1) b
    show ([ind k ++ lineOf (.rep c b)] ++ blkLines (k + 1) b ++ passL (k + 1) b).length ≤ 3 * (1 + sizeB b)
    simp only [List.length_append, List.length_cons, List.length_nil]
    omega
theorem blkLines_len : ∀ (k : Nat) (b : List Sta), (blkLines k b).length ≤ 3 * sizeB b
  | _, [] => Nat.zero_le _
  | k, s :: r => by
    have h1 := staLines_len k s
    have h2 := blkLines_len k r
    show (staLines k s ++ blkLines k r).length ≤ 3 * (s.size + sizeB r)
    rw [List.length_append]
    omega
end
theorem TDs.at {H : Hp} : ∀ {vs : List V} {ds : List PyData} {i : Nat} {v : V}, TDs H vs ds → vs[i]? = some v → ∃ d, ds[i]? = some d ∧ TD H v d
  | _, _, i, v, .nil, h => by simp at h
  | _, _, 0, v, .cons h1 h2, h => by
    cases h
    exact ⟨_, rfl, h1⟩
  | _, _, i + 1, v, .cons h1 h2, h => TDs.at h2 (i := i) h
theorem line_len {d : Nat} {s : Sta} (ok : StaOk d s) : (lineOf s).length ≤ 80 := by
  have q0 := e_len
  have z0 : (Str.ofString " ").length = 1 := rfl
  have z1 : (Str.ofString " = ").length = 3 := rfl
  have z2 : (Str.ofString " ~ ").length = 3 := rfl
  have z3 : (Str.ofString ".").length = 1 := rfl
  have z4 : (Str.ofString "make").length = 4 := rfl
  have z5 : (Str.ofString "wish ").length = 5 := rfl
  have z6 : (Str.ofString "keep").length = 4 := rfl
  have z7 : (Str.ofString "drop").length = 4 := rfl
  have z8 : (Str.ofString "cut ").length = 4 := rfl
  have z9 : (Str.ofString "say").length = 3 := rfl
  have y0 : (Str.ofString "ask").length = 3 := rfl
  have y1 : (Str.ofString "if").length = 2 := rfl
  have y2 : (Str.ofString "repeat").length = 6 := rfl
  cases s with
  | act a =>
    have ok : a.nm := by cases d <;> exact ok
    cases a with
    | ask t =>
      have ok : t.ok := ok
      have := tst_len (t := t) ok.1
      have := ok.2
      simp only [lineOf, strLen_append]
      omega
    | make x => have ok : Nm x := ok; have := ok.1; simp only [lineOf, strLen_append]; omega
    | keep x => have ok : Nm x := ok; have := ok.1; simp only [lineOf, strLen_append]; omega
    | drop x => have ok : Nm x := ok; have := ok.1; simp only [lineOf, strLen_append]; omega
    | say x => have ok : Nm x := ok; have := ok.1; simp only [lineOf, strLen_append]; omega
    | wish x y => have ok : Nm x ∧ Nm y := ok; have := ok.1.1; have := ok.2.1; simp only [lineOf, strLen_append]; omega
    | name x y => have ok : Nm x ∧ Nm y := ok; have := ok.1.1; have := ok.2.1; simp only [lineOf, strLen_append]; omega
    | cut x y => have ok : Nm x ∧ Nm y := ok; have := ok.1.1; have := ok.2.1; simp only [lineOf, strLen_append]; omega
    | hold x y z => have ok : Nm x ∧ Nm y ∧ Nm z := ok; have := ok.1.1; have := ok.2.1.1; have := ok.2.2.1; simp only [lineOf, strLen_append]; omega
    | weak x y z => have ok : Nm x ∧ Nm y ∧ Nm z := ok; have := ok.1.1; have := ok.2.1.1; have := ok.2.2.1; simp only [lineOf, strLen_append]; omega
    | take x y z => have ok : Nm x ∧ Nm y ∧ Nm z := ok; have := ok.1.1; have := ok.2.1.1; have := ok.2.2.1; simp only [lineOf, strLen_append]; omega
  | cond t y n =>
    have ok : t.ok := by
      cases d with
      | zero => exact ok.elim
      | succ d => exact ok.1
    have := tst_len (t := t) ok.1
    have := ok.2
    simp only [lineOf, strLen_append]
    omega
  | rep k b =>
    have ok : k < 13 := by
      cases d with
      | zero => exact ok.elim
      | succ d => exact ok.1
    have := intS_len k (by omega)
    simp only [lineOf, strLen_append]
    omega
end G

set_option Elab.async false
set_option linter.all false
set_option maxRecDepth 100000
set_option maxHeartbeats 4000000
/-! k06: _block_lines. -/
namespace G
open PySem PySem.Spec PyProof.Rows L2
def spBLk (d : Nat) : Sp := fun vs H Q _ => ∃ (v : V) (b : List Sta) (k : Nat), vs = [v, .int (k : Int)] ∧ TD H v (.tuple (blkData b)) ∧ (∀ s ∈ b, StaOk d s) ∧ k + d ≤ 10 ∧ sizeB b ≤ 100 ∧ ∀ (H' : Hp) (p : Addr), Same H H' → H p = none → H' p = some (.lst ((blkLines k b).map V.str)) → Q (.ref p) H'
def spBLk' : Nat → Sp
  | 0 => fun _ _ _ _ => False
  | d + 1 => spBLk d
theorem size_take : ∀ (b : List Sta) (j : Nat), sizeB (b.take j) ≤ sizeB b
  | [], j => by rw [List.take_nil]; exact Nat.le_refl _
  | s :: r, 0 => Nat.zero_le _
  | s :: r, j + 1 => Nat.add_le_add_left (size_take r j) _
theorem size_mem : ∀ {b : List Sta} {s : Sta}, s ∈ b → s.size ≤ sizeB b
  | x :: r, s, h => by
    rcases List.mem_cons.mp h with rfl | h
    · exact Nat.le_add_right _ _
    · exact Nat.le_trans (size_mem h) (Nat.le_add_left _ _)
theorem act_shape (a : Act) : ∃ (w : Str) (ds : List PyData), a.data = .tuple (.str w :: ds) ∧ inV (.str w) [.str "if", .str "repeat"] = false ∧ decide (V.str w = V.str "if") = false := by
  cases a <;> exact ⟨_, _, rfl, by decide +kernel, by decide +kernel⟩
theorem emp_eq {H : Hp} {ys : List V} {b : List Sta} (h : TDs H ys (blkData b)) : ys.isEmpty = b.isEmpty := by
  have e := h.len
  rw [blkData_eq, List.length_map] at e
  cases ys <;> cases b <;> simp at e ⊢
section
variable {P : Program} {w : World} {K : PySem.W.Frag} {mg : Str → Option Value} {base : Heap}
abbrev s__block_lines : Stmt := top 5
abbrev n__block_lines : List Str := ["block", "depth", "lines", "statement"]
theorem sc__block_lines : FnScope n__block_lines ["block", "depth"] (defScope s__block_lines) := ⟨rfl, rfl, rfl, by decide +kernel, rfl, by decide +kernel, by decide +kernel⟩
theorem ok_bl {f fL fB : Addr} {fd dL dB : FuncData} {d k0 : Nat} {tk : Tok} (F : Fun K "_block_lines" "_block_lines" s__block_lines f fd) (mI : mg "INDENT" = some (.str (Str.ofString "  ") tk))
    (mL : mg "line_of" = some (.ref fL)) (kL : PySem.W.keepIn K (.ref fL) = true) (bL : Binds K dL ["statement"] []) (GL : FnOk P w K mg base CX0 5 fL dL ["statement"] spLine)
    (mB : mg "_block_lines" = some (.ref fB)) (kB : PySem.W.keepIn K (.ref fB) = true) (bB : Binds K dB ["block", "depth"] []) (hk0 : 5 ≤ k0) (GB : FnOk P w K mg base CX0 k0 fB dB ["block", "depth"] (spBLk' d)) : FnOk P w K mg base CX0 (k0 + 1) f fd ["block", "depth"] (spBLk d) := by
  refine F.ok sc__block_lines (fun vs H Q E ⟨v, b, k, ev, _⟩ => by rw [ev]; rfl) (fun cdv A outer s0 H vs Q E hr ⟨v, b, k, ev, td, ok, hk, hz, q⟩ => ?_)
  subst ev
  have hr5 : Room 5 _ := hr.mono hk0
  refine ⟨_, (pss_cons (ps_set (i := 2) sc__block_lines.nd rfl (.inl rfl) (pe_lst pa_nil))
      (pss_cons (ps_for PassesOwn.never rfl (pi_tup (pv 0)) (pg_name (i := 3) sc__block_lines.nd rfl (.inl rfl))
      (pss_cons (ps_expr (pe_bm PySem.F.plainAttrs_list PySem.F.slot_list_append PySem.F.type_list_append mt_append (pv 2) (pa_cons (pe_op op_add_str (pe_op op_mulS (pe_glob (v := .str (Str.ofString "  ")) (by rfl) mI ⟨_, rfl⟩) (pv 1)) (pe_call GL hr5 (by rfl) mL kL bL .nil pass0 (pa_cons (pv 3) pa_nil))) pa_nil)))
      (pss_cons (ps_if (pt_cmpR op_in_seq (pe_ix ix_tup (pv 3) pe_int (fun _ _ => rfl)) (pe_tup (pa_cons pe_str (pa_cons pe_str pa_nil))) (by rfl))
      (pss_cons (ps_expr (pe_bm PySem.F.plainAttrs_list PySem.F.slot_list_extend PySem.F.type_list_extend mt_extend (pv 2) (pa_cons (pe_call GB hr (by rfl) mB kB bB .nil pass0 (pa_cons (pe_ix ix_tup (pv 3) pe_int (fun _ _ => rfl)) (pa_cons (pe_op op_addE (pv 1) pe_int) pa_nil))) pa_nil)))
      (pss_one (ps_if (pt_not (pt_truth (pe_ix ix_tup (pv 3) pe_int (fun _ _ => rfl)) (by intro _; rfl)))
      (pss_one (ps_expr (pe_bm PySem.F.plainAttrs_list PySem.F.slot_list_append PySem.F.type_list_append mt_append (pv 2) (pa_cons (pe_op op_add_str (pe_op op_mulS (pe_glob (v := .str (Str.ofString "  ")) (by rfl) mI ⟨_, rfl⟩) (pe_op op_addE (pv 1) pe_int)) pe_str) pa_nil))))
      pss_nil)))
      pss_nil)
      (pss_one (ps_if (PW.pt (pw_and (pt_cmpR op_eq (pe_ix ix_tup (pv 3) pe_int (fun _ _ => rfl)) pe_str (nomark _)) (pw_and1 (pt_truth (pe_ix ix_tup (pv 3) pe_int (fun _ _ => rfl)) (by intro _; rfl)))))
      (pss_cons (ps_expr (pe_bm PySem.F.plainAttrs_list PySem.F.slot_list_append PySem.F.type_list_append mt_append (pv 2) (pa_cons (pe_op op_add_str (pe_op op_mulS (pe_glob (v := .str (Str.ofString "  ")) (by rfl) mI ⟨_, rfl⟩) (pv 1)) pe_str) pa_nil)))
      (pss_one (ps_expr (pe_bm PySem.F.plainAttrs_list PySem.F.slot_list_extend PySem.F.type_list_extend mt_extend (pv 2) (pa_cons (pe_call GB hr (by rfl) mB kB bB .nil pass0 (pa_cons (pe_ix ix_tup (pv 3) pe_int (fun _ _ => rfl)) (pa_cons (pe_op op_addE (pv 1) pe_int) pa_nil))) pa_nil)))))
      pss_nil)))))
      (pss_one (ps_ret (pv 2))))), ?_⟩
  obtain ⟨r0, xs, rfl, gr0, tds⟩ := td_tup td
  refine ⟨Nat.zero_le _, fun Ln nLn => ?_⟩
  have s1 := Same.up (o := HO.lst []) nLn
  have gL1 : upd H Ln (HO.lst []) Ln = some (.lst []) := upd_same
  have gr1 := s1 _ _ gr0
  have tdsa := TDs.ch (Ch.same (S := []) s1) _ _ tds
  generalize upd H Ln (HO.lst []) = H1 at s1 gL1 gr1 tdsa ⊢
  refine ⟨_, rfl, r0, rfl, ⟨_, SqT.of gr1⟩, for_tup (xs := xs) (fun j σ H' => Ch [Ln] H1 H' ∧ H' Ln = some (.lst ((blkLines k (b.take j)).map V.str)) ∧ ∃ x3 : Option V, σ = [some (.ref r0), some (.int (k : Int)), some (.ref Ln), x3])
    ⟨Ch.refl _ _, gL1, none, rfl⟩ (fun j σ H' _ h => SqT.of (h.1.tu _ _ gr1)) ?_ ?_⟩
  · rintro j x σ H' hx ⟨ch, gL, x3, rfl⟩
    obtain ⟨dt, edt, tdv⟩ := (TDs.ch ch _ _ tdsa).at hx
    rw [blkData_eq, List.getElem?_map] at edt
    obtain ⟨s, hs, rfl⟩ := Option.map_eq_some_iff.mp edt
    have oks := ok s (List.mem_of_getElem? hs)
    have ll := line_len oks
    have bl : (blkLines k (b.take j)).length ≤ 300 := by
      have h1 := blkLines_len k (b.take j)
      have h2 := size_take b j
      omega
    have step : blkLines k (b.take (j + 1)) = blkLines k (b.take j) ++ staLines k s := by
      rw [List.take_add_one, hs]
      exact blkLines_snoc k s _
    refine ⟨_, rfl, .inl ⟨rfl, _, SqL.of gL⟩, _, rfl, Str.ofString "  ", k, rfl, rfl, by decide, by decide, by omega, _, rfl, x, s, d, rfl, tdv, oks, fun Ha sa => ⟨_, _, rfl, rfl, line1000 (by rw [repS_len]; show k * 2 + _ ≤ 1000; omega), Ln, _, _, rfl, rfl, sa _ _ gL, lt_line (by rw [List.length_map]; omega), ?_⟩⟩
    have cb : Ch [Ln] H' (upd Ha Ln (.lst ((blkLines k (b.take j)).map V.str ++ [.str (repS (Str.ofString "  ") k ++ lineOf s)]))) := (Ch.same sa).put (by simp) (sa _ _ gL) (fun xs z => by cases z)
    have gLb : upd Ha Ln (.lst ((blkLines k (b.take j)).map V.str ++ [.str (repS (Str.ofString "  ") k ++ lineOf s)])) Ln = some (.lst ((blkLines k (b.take j)).map V.str ++ [.str (repS (Str.ofString "  ") k ++ lineOf s)])) := upd_same
    have tdb := TD.ch cb _ _ tdv
    generalize upd Ha Ln (.lst ((blkLines k (b.take j)).map V.str ++ [.str (repS (Str.ofString "  ") k ++ lineOf s)])) = Hb at cb gLb tdb ⊢
    cases s with
    | act a =>
      obtain ⟨wd, ds, ea, ei, ef⟩ := act_shape a
      have tdb : TD Hb x a.data := tdb
      rw [ea] at tdb
      obtain ⟨r, ys, rfl, gr, dss⟩ := td_tup tdb
      obtain ⟨v1, ys, rfl, d1, dss⟩ := tds_cons dss
      cases d1
      refine ⟨_, rfl, r, _, _, _, rfl, rfl, SqT.of gr, atI_nat (j := 0) rfl, line1000 (Nat.le_of_ble_eq_true rfl), fun t0 n0 => ⟨t0, _, rfl, .inr (SqT.of upd_same), rfl, rfl, _, rfl, ?_⟩⟩
      show if inV (.str wd) [.str "if", .str "repeat"] = true then _ else _
      rw [ei]
      have s2 := Same.up (o := HO.tup [V.str "if", V.str "repeat"]) n0
      refine iteF ⟨_, rfl, r, _, _, _, rfl, rfl, SqT.of (s2 _ _ gr), atI_nat (j := 0) rfl, rfl, _, rfl, ?_⟩
      rw [ef]
      refine iteF (iteF ⟨ch.trans (cb.trans (Ch.same s2)), ?_, _, rfl⟩)
      rw [s2 _ _ gLb, step, List.map_append]
      rfl
    | cond t y n =>
      have tdb : TD Hb x (.tuple [.str "if", t.data, .tuple (blkData y), .tuple (blkData n)]) := tdb
      obtain ⟨r, ys0, rfl, gr, e0⟩ := td_tup tdb
      obtain ⟨v1, ys1, rfl, d1, e1⟩ := tds_cons e0
      cases d1
      obtain ⟨v2, ys2, rfl, d2, e2⟩ := tds_cons e1
      obtain ⟨v3, ys3, rfl, d3, e3⟩ := tds_cons e2
      obtain ⟨v4, rfl, d4⟩ := tds1 e3
      have szs := size_mem (List.mem_of_getElem? hs)
      have szs : 1 + (sizeB y + sizeB n) ≤ sizeB b := szs
      have bl3 := blkLines_len (k + 1) n
      have bl2 := blkLines_len (k + 1) y
      refine ⟨_, rfl, r, _, _, _, rfl, rfl, SqT.of gr, atI_nat (j := 0) rfl, line1000 (Nat.le_of_ble_eq_true rfl), fun t0 n0 => ⟨t0, _, rfl, .inr (SqT.of upd_same), rfl, rfl, _, rfl, ?_⟩⟩
      have s2 := Same.up (o := HO.tup [V.str "if", V.str "repeat"]) n0
      have gL2 := s2 _ _ gLb
      have gr2 := s2 _ _ gr
      have cb2 := cb.trans (Ch.same (S := [Ln]) s2)
      generalize upd Hb t0 (HO.tup [V.str "if", V.str "repeat"]) = H2 at s2 gL2 gr2 cb2 ⊢
      have d32 := TD.ch (Ch.same (S := []) s2) _ _ d3
      obtain ⟨rb, zs, rfl, gz, dz⟩ := td_tup d32
      have d42 := TD.ch (Ch.same (S := []) s2) _ _ d4
      obtain ⟨rn, ws, rfl, gw, dw⟩ := td_tup d42
      cases d with
      | zero => exact oks.elim
      | succ d =>
        refine iteT ?_
        refine ⟨_, rfl, .inl ⟨rfl, _, SqL.of gL2⟩, _, rfl, r, _, _, _, rfl, rfl, SqT.of gr2, atI_nat (j := 2) rfl, _, rfl, _, _, rfl, rfl, fun z ez => ⟨.ref rb, y, k + 1, by rw [show z = ((k + 1 : Nat) : Int) by omega]; rfl, d32, oks.2.1, by omega, by omega, fun Hc p sc np gp => ⟨Ln, p, _, _, rfl, rfl, sc _ _ gL2, gp, Nat.le_of_lt (lt_line (by simp only [List.length_append, List.length_map, List.length_cons, List.length_nil]; omega)), ?_⟩⟩⟩
        have c3 : Ch [Ln] H2 (upd Hc Ln (.lst ((blkLines k (b.take j)).map V.str ++ [.str (repS (Str.ofString "  ") k ++ lineOf (.cond t y n))] ++ (blkLines (k + 1) y).map V.str))) := (Ch.same sc).put (by simp) (sc _ _ gL2) (fun xs z => by cases z)
        have gL3 : upd Hc Ln (.lst ((blkLines k (b.take j)).map V.str ++ [.str (repS (Str.ofString "  ") k ++ lineOf (.cond t y n))] ++ (blkLines (k + 1) y).map V.str)) Ln = some (.lst ((blkLines k (b.take j)).map V.str ++ [.str (repS (Str.ofString "  ") k ++ lineOf (.cond t y n))] ++ (blkLines (k + 1) y).map V.str)) := upd_same
        generalize upd Hc Ln (.lst ((blkLines k (b.take j)).map V.str ++ [.str (repS (Str.ofString "  ") k ++ lineOf (.cond t y n))] ++ (blkLines (k + 1) y).map V.str)) = H3 at c3 gL3 ⊢
        have gr3 := c3.tu _ _ gr2
        refine ⟨_, rfl, r, _, _, _, rfl, rfl, SqT.of gr3, atI_nat (j := 2) rfl, _, .inr (.inl ⟨zs, SqT.of (c3.tu _ _ gz), rfl⟩), ?_⟩
        rw [emp_eq dz]
        cases hb : y.isEmpty with
        | true =>
          refine iteT ⟨_, rfl, .inl ⟨rfl, _, SqL.of gL3⟩, _, rfl, _, _, rfl, rfl, fun z ez => ⟨Str.ofString "  ", k + 1, rfl, by rw [show z = ((k + 1 : Nat) : Int) by omega], by decide, by decide, by omega, _, _, rfl, rfl, line1000 (by rw [repS_len]; show (k + 1) * 2 + 4 ≤ 1000; omega), Ln, _, _, rfl, rfl, gL3, lt_line (by simp only [List.length_append, List.length_map, List.length_cons, List.length_nil]; omega), ?_⟩⟩
          have c4 := (Ch.refl [Ln] H3).put (o := .lst ((blkLines k (b.take j)).map V.str ++ [.str (repS (Str.ofString "  ") k ++ lineOf (.cond t y n))] ++ (blkLines (k + 1) y).map V.str ++ [.str (repS (Str.ofString "  ") (k + 1) ++ Str.ofString "pass")])) (by simp) gL3 (fun xs z => by cases z)
          have g4 := upd_same (H := H3) (a := Ln) (o := HO.lst (((blkLines k (b.take j)).map V.str ++ [.str (repS (Str.ofString "  ") k ++ lineOf (.cond t y n))] ++ (blkLines (k + 1) y).map V.str) ++ [.str (repS (Str.ofString "  ") (k + 1) ++ Str.ofString "pass")]))
          generalize upd H3 Ln (.lst (((blkLines k (b.take j)).map V.str ++ [.str (repS (Str.ofString "  ") k ++ lineOf (.cond t y n))] ++ (blkLines (k + 1) y).map V.str) ++ [.str (repS (Str.ofString "  ") (k + 1) ++ Str.ofString "pass")])) = H4 at c4 g4 ⊢
          refine ⟨_, rfl, r, _, _, _, rfl, rfl, SqT.of (c4.tu _ _ gr3), atI_nat (j := 0) rfl, rfl, _, rfl, ?_⟩
          refine iteT ⟨_, rfl, r, _, _, _, rfl, rfl, SqT.of (c4.tu _ _ gr3), atI_nat (j := 3) rfl, _, .inr (.inl ⟨ws, SqT.of (c4.tu _ _ (c3.tu _ _ gw)), rfl⟩), ?_⟩
          rw [emp_eq dw]
          cases hn : n.isEmpty with
          | true =>
            refine iteF ⟨ch.trans (cb2.trans (c3.trans c4)), ?_, _, rfl⟩
            rw [g4, step]
            simp [staLines, passL, elseL, hb, hn, ind, List.isEmpty_iff.mp hn, blkLines]
          | false =>
            refine iteT ⟨_, rfl, .inl ⟨rfl, _, SqL.of (g4)⟩, _, rfl, Str.ofString "  ", k, rfl, rfl, by decide, by decide, by omega, _, _, rfl, rfl, line1000 (by rw [repS_len]; show k * 2 + 4 ≤ 1000; omega), Ln, _, _, rfl, rfl, g4, lt_line (by simp only [List.length_append, List.length_map, List.length_cons, List.length_nil]; omega), ?_⟩
            have c5 := (Ch.refl [Ln] H4).put (o := .lst ((((blkLines k (b.take j)).map V.str ++ [.str (repS (Str.ofString "  ") k ++ lineOf (.cond t y n))] ++ (blkLines (k + 1) y).map V.str) ++ [.str (repS (Str.ofString "  ") (k + 1) ++ Str.ofString "pass")]) ++ [.str (repS (Str.ofString "  ") k ++ Str.ofString "else")])) (by simp) (g4) (fun xs z => by cases z)
            have g5 : upd H4 Ln (.lst ((((blkLines k (b.take j)).map V.str ++ [.str (repS (Str.ofString "  ") k ++ lineOf (.cond t y n))] ++ (blkLines (k + 1) y).map V.str) ++ [.str (repS (Str.ofString "  ") (k + 1) ++ Str.ofString "pass")]) ++ [.str (repS (Str.ofString "  ") k ++ Str.ofString "else")])) Ln = some (.lst ((((blkLines k (b.take j)).map V.str ++ [.str (repS (Str.ofString "  ") k ++ lineOf (.cond t y n))] ++ (blkLines (k + 1) y).map V.str) ++ [.str (repS (Str.ofString "  ") (k + 1) ++ Str.ofString "pass")]) ++ [.str (repS (Str.ofString "  ") k ++ Str.ofString "else")])) := upd_same
            generalize upd H4 Ln (.lst ((((blkLines k (b.take j)).map V.str ++ [.str (repS (Str.ofString "  ") k ++ lineOf (.cond t y n))] ++ (blkLines (k + 1) y).map V.str) ++ [.str (repS (Str.ofString "  ") (k + 1) ++ Str.ofString "pass")]) ++ [.str (repS (Str.ofString "  ") k ++ Str.ofString "else")])) = H5 at c5 g5 ⊢
            refine ⟨_, rfl, .inl ⟨rfl, _, SqL.of g5⟩, _, rfl, r, _, _, _, rfl, rfl, SqT.of (c5.tu _ _ (c4.tu _ _ gr3)), atI_nat (j := 3) rfl, _, rfl, _, _, rfl, rfl, fun z ez => ⟨.ref rn, n, k + 1, by rw [show z = ((k + 1 : Nat) : Int) by omega]; rfl, .tup (c5.tu _ _ (c4.tu _ _ (c3.tu _ _ gw))) (TDs.ch ((c3.trans c4).trans c5) _ _ dw), oks.2.2, by omega, by omega, fun Hf p sf np gp => ⟨Ln, p, _, _, rfl, rfl, sf _ _ g5, gp, Nat.le_of_lt (lt_line (by simp only [List.length_append, List.length_map, List.length_cons, List.length_nil]; omega)), ?_⟩⟩⟩
            have c6 := (Ch.same (S := [Ln]) sf).put (o := .lst ((((blkLines k (b.take j)).map V.str ++ [.str (repS (Str.ofString "  ") k ++ lineOf (.cond t y n))] ++ (blkLines (k + 1) y).map V.str) ++ [.str (repS (Str.ofString "  ") (k + 1) ++ Str.ofString "pass")]) ++ [.str (repS (Str.ofString "  ") k ++ Str.ofString "else")] ++ (blkLines (k + 1) n).map V.str)) (by simp) (sf _ _ g5) (fun xs z => by cases z)
            refine ⟨ch.trans (cb2.trans ((c3.trans c4).trans (c5.trans c6))), ?_, _, rfl⟩
            rw [upd_same, step]
            simp [staLines, passL, elseL, hb, hn, ind]
        | false =>
          refine iteF ?_
          refine ⟨_, rfl, r, _, _, _, rfl, rfl, SqT.of (gr3), atI_nat (j := 0) rfl, rfl, _, rfl, ?_⟩
          refine iteT ⟨_, rfl, r, _, _, _, rfl, rfl, SqT.of (gr3), atI_nat (j := 3) rfl, _, .inr (.inl ⟨ws, SqT.of (c3.tu _ _ gw), rfl⟩), ?_⟩
          rw [emp_eq dw]
          cases hn : n.isEmpty with
          | true =>
            refine iteF ⟨ch.trans (cb2.trans (c3)), ?_, _, rfl⟩
            rw [gL3, step]
            simp [staLines, passL, elseL, hb, hn, ind, List.isEmpty_iff.mp hn, blkLines]
          | false =>
            refine iteT ⟨_, rfl, .inl ⟨rfl, _, SqL.of (gL3)⟩, _, rfl, Str.ofString "  ", k, rfl, rfl, by decide, by decide, by omega, _, _, rfl, rfl, line1000 (by rw [repS_len]; show k * 2 + 4 ≤ 1000; omega), Ln, _, _, rfl, rfl, gL3, lt_line (by simp only [List.length_append, List.length_map, List.length_cons, List.length_nil]; omega), ?_⟩
            have c5 := (Ch.refl [Ln] H3).put (o := .lst (((blkLines k (b.take j)).map V.str ++ [.str (repS (Str.ofString "  ") k ++ lineOf (.cond t y n))] ++ (blkLines (k + 1) y).map V.str) ++ [.str (repS (Str.ofString "  ") k ++ Str.ofString "else")])) (by simp) (gL3) (fun xs z => by cases z)
            have g5 : upd H3 Ln (.lst (((blkLines k (b.take j)).map V.str ++ [.str (repS (Str.ofString "  ") k ++ lineOf (.cond t y n))] ++ (blkLines (k + 1) y).map V.str) ++ [.str (repS (Str.ofString "  ") k ++ Str.ofString "else")])) Ln = some (.lst (((blkLines k (b.take j)).map V.str ++ [.str (repS (Str.ofString "  ") k ++ lineOf (.cond t y n))] ++ (blkLines (k + 1) y).map V.str) ++ [.str (repS (Str.ofString "  ") k ++ Str.ofString "else")])) := upd_same
            generalize upd H3 Ln (.lst (((blkLines k (b.take j)).map V.str ++ [.str (repS (Str.ofString "  ") k ++ lineOf (.cond t y n))] ++ (blkLines (k + 1) y).map V.str) ++ [.str (repS (Str.ofString "  ") k ++ Str.ofString "else")])) = H5 at c5 g5 ⊢
            refine ⟨_, rfl, .inl ⟨rfl, _, SqL.of g5⟩, _, rfl, r, _, _, _, rfl, rfl, SqT.of (c5.tu _ _ (gr3)), atI_nat (j := 3) rfl, _, rfl, _, _, rfl, rfl, fun z ez => ⟨.ref rn, n, k + 1, by rw [show z = ((k + 1 : Nat) : Int) by omega]; rfl, .tup (c5.tu _ _ (c3.tu _ _ gw)) (TDs.ch ((c3).trans c5) _ _ dw), oks.2.2, by omega, by omega, fun Hf p sf np gp => ⟨Ln, p, _, _, rfl, rfl, sf _ _ g5, gp, Nat.le_of_lt (lt_line (by simp only [List.length_append, List.length_map, List.length_cons, List.length_nil]; omega)), ?_⟩⟩⟩
            have c6 := (Ch.same (S := [Ln]) sf).put (o := .lst (((blkLines k (b.take j)).map V.str ++ [.str (repS (Str.ofString "  ") k ++ lineOf (.cond t y n))] ++ (blkLines (k + 1) y).map V.str) ++ [.str (repS (Str.ofString "  ") k ++ Str.ofString "else")] ++ (blkLines (k + 1) n).map V.str)) (by simp) (sf _ _ g5) (fun xs z => by cases z)
            refine ⟨ch.trans (cb2.trans ((c3).trans (c5.trans c6))), ?_, _, rfl⟩
            rw [upd_same, step]
            simp [staLines, passL, elseL, hb, hn, ind]
    | rep c b' =>
      have tdb : TD Hb x (.tuple [.str "repeat", .int c, .tuple (blkData b')]) := tdb
      obtain ⟨r, ys0, rfl, gr, e0⟩ := td_tup tdb
      obtain ⟨v1, ys1, rfl, d1, e1⟩ := tds_cons e0
      cases d1
      obtain ⟨v2, ys2, rfl, d2, e2⟩ := tds_cons e1
      cases d2
      obtain ⟨v3, rfl, d3⟩ := tds1 e2
      have szs := size_mem (List.mem_of_getElem? hs)
      have szs : 1 + sizeB b' ≤ sizeB b := szs
      have bl2 := blkLines_len (k + 1) b'
      refine ⟨_, rfl, r, _, _, _, rfl, rfl, SqT.of gr, atI_nat (j := 0) rfl, line1000 (Nat.le_of_ble_eq_true rfl), fun t0 n0 => ⟨t0, _, rfl, .inr (SqT.of upd_same), rfl, rfl, _, rfl, ?_⟩⟩
      have s2 := Same.up (o := HO.tup [V.str "if", V.str "repeat"]) n0
      have gL2 := s2 _ _ gLb
      have gr2 := s2 _ _ gr
      have cb2 := cb.trans (Ch.same (S := [Ln]) s2)
      generalize upd Hb t0 (HO.tup [V.str "if", V.str "repeat"]) = H2 at s2 gL2 gr2 cb2 ⊢
      have d32 := TD.ch (Ch.same (S := []) s2) _ _ d3
      obtain ⟨rb, zs, rfl, gz, dz⟩ := td_tup d32
      cases d with
      | zero => exact oks.elim
      | succ d =>
        refine iteT ?_
        refine ⟨_, rfl, .inl ⟨rfl, _, SqL.of gL2⟩, _, rfl, r, _, _, _, rfl, rfl, SqT.of gr2, atI_nat (j := 2) rfl, _, rfl, _, _, rfl, rfl, fun z ez => ⟨.ref rb, b', k + 1, by rw [show z = ((k + 1 : Nat) : Int) by omega]; rfl, d32, oks.2, by omega, by omega, fun Hc p sc np gp => ⟨Ln, p, _, _, rfl, rfl, sc _ _ gL2, gp, Nat.le_of_lt (lt_line (by simp only [List.length_append, List.length_map, List.length_cons, List.length_nil]; omega)), ?_⟩⟩⟩
        have c3 : Ch [Ln] H2 (upd Hc Ln (.lst ((blkLines k (b.take j)).map V.str ++ [.str (repS (Str.ofString "  ") k ++ lineOf (.rep c b'))] ++ (blkLines (k + 1) b').map V.str))) := (Ch.same sc).put (by simp) (sc _ _ gL2) (fun xs z => by cases z)
        have gL3 : upd Hc Ln (.lst ((blkLines k (b.take j)).map V.str ++ [.str (repS (Str.ofString "  ") k ++ lineOf (.rep c b'))] ++ (blkLines (k + 1) b').map V.str)) Ln = some (.lst ((blkLines k (b.take j)).map V.str ++ [.str (repS (Str.ofString "  ") k ++ lineOf (.rep c b'))] ++ (blkLines (k + 1) b').map V.str)) := upd_same
        generalize upd Hc Ln (.lst ((blkLines k (b.take j)).map V.str ++ [.str (repS (Str.ofString "  ") k ++ lineOf (.rep c b'))] ++ (blkLines (k + 1) b').map V.str)) = H3 at c3 gL3 ⊢
        have gr3 := c3.tu _ _ gr2
        refine ⟨_, rfl, r, _, _, _, rfl, rfl, SqT.of gr3, atI_nat (j := 2) rfl, _, .inr (.inl ⟨zs, SqT.of (c3.tu _ _ gz), rfl⟩), ?_⟩
        rw [emp_eq dz]
        cases hb : b'.isEmpty with
        | true =>
          refine iteT ⟨_, rfl, .inl ⟨rfl, _, SqL.of gL3⟩, _, rfl, _, _, rfl, rfl, fun z ez => ⟨Str.ofString "  ", k + 1, rfl, by rw [show z = ((k + 1 : Nat) : Int) by omega], by decide, by decide, by omega, _, _, rfl, rfl, line1000 (by rw [repS_len]; show (k + 1) * 2 + 4 ≤ 1000; omega), Ln, _, _, rfl, rfl, gL3, lt_line (by simp only [List.length_append, List.length_map, List.length_cons, List.length_nil]; omega), ?_⟩⟩
          have c4 := (Ch.refl [Ln] H3).put (o := .lst ((blkLines k (b.take j)).map V.str ++ [.str (repS (Str.ofString "  ") k ++ lineOf (.rep c b'))] ++ (blkLines (k + 1) b').map V.str ++ [.str (repS (Str.ofString "  ") (k + 1) ++ Str.ofString "pass")])) (by simp) gL3 (fun xs z => by cases z)
          refine ⟨_, rfl, r, _, _, _, rfl, rfl, SqT.of (c4.tu _ _ gr3), atI_nat (j := 0) rfl, rfl, _, rfl, ?_⟩
          refine iteF (iteF ⟨ch.trans (cb2.trans (c3.trans c4)), ?_, _, rfl⟩)
          rw [upd_same, step]
          simp [staLines, passL, hb, ind]
        | false =>
          refine iteF ⟨_, rfl, r, _, _, _, rfl, rfl, SqT.of gr3, atI_nat (j := 0) rfl, rfl, _, rfl, ?_⟩
          refine iteF (iteF ⟨ch.trans (cb2.trans c3), ?_, _, rfl⟩)
          rw [gL3, step]
          simp [staLines, passL, hb, ind]
  · rintro σ H' ⟨ch, gL, x3, rfl⟩
    have lx : xs.length = b.length := by rw [tds.len, blkData_eq, List.length_map]
    rw [lx, List.take_length] at gL
    refine ⟨_, rfl, q H' Ln ?_ nLn gL⟩
    exact (Ch.lessS (S := []) ((Ch.same s1).trans ch) (fun a z => .inr (by rw [List.mem_singleton.mp z]; exact nLn))).kp.toSame
end
end G

set_option Elab.async false
set_option linter.all false
set_option maxRecDepth 100000
set_option maxHeartbeats 4000000
/-! k06: the program's text. -/
namespace G
open PySem PySem.Spec PyProof.Rows L2
def allLines (g : Nat) (b : List Sta) : List Str := (Str.empty ++ Str.ofString "givens " ++ intS g) :: blkLines 0 b
/-- every line's length -/
theorem ind_len (k : Nat) : (ind k).length = k * 2 := repS_len _ k
theorem passL_le (k : Nat) (b : List Sta) (hk : k ≤ 20) : ∀ y ∈ passL k b, y.length ≤ 200 := by
  intro y hy
  unfold passL at hy
  split at hy
  · rw [List.mem_singleton.mp hy, strLen_append, ind_len]
    show k * 2 + 4 ≤ 200
    omega
  · exact nomatch hy
theorem elseL_le (k : Nat) (b : List Sta) (hk : k ≤ 20) : ∀ y ∈ elseL k b, y.length ≤ 200 := by
  intro y hy
  unfold elseL at hy
  split at hy
  · exact nomatch hy
  · rw [List.mem_singleton.mp hy, strLen_append, ind_len]
    show k * 2 + 4 ≤ 200
    omega
theorem first_le {k d : Nat} {s : Sta} (ok : StaOk d s) (hk : k ≤ 20) : (ind k ++ lineOf s).length ≤ 200 := by
  have := line_len ok
  rw [strLen_append, ind_len]
  omega
mutual
theorem staLines_le : ∀ (k d : Nat) (s : Sta), StaOk d s → k + d ≤ 10 → ∀ y ∈ staLines k s, y.length ≤ 200
  | k, d, .act a, ok, h, y, hy => by
    have hy : y ∈ [ind k ++ lineOf (.act a)] := hy
    rw [List.mem_singleton.mp hy]
    exact first_le ok (by omega)
  | k, 0, .cond t y n, ok, h, z, hz => by exact ok.elim
  | k, d + 1, .cond t y n, ok, h, z, hz => by
    have hz : z ∈ [ind k ++ lineOf (.cond t y n)] ++ blkLines (k + 1) y ++ passL (k + 1) y ++ elseL k n ++ blkLines (k + 1) n := hz
    have ok' : t.ok ∧ (∀ s ∈ y, StaOk d s) ∧ ∀ s ∈ n, StaOk d s := ok
    simp only [List.mem_append] at hz
    rcases hz with (((hz | hz) | hz) | hz) | hz
    · rw [List.mem_singleton.mp hz]
      exact first_le ok (by omega)
    · exact blkLines_le (k + 1) d y ok'.2.1 (by omega) z hz
    · exact passL_le _ _ (by omega) z hz
    · exact elseL_le _ _ (by omega) z hz
    · exact blkLines_le (k + 1) d n ok'.2.2 (by omega) z hz
  | k, 0, .rep c b, ok, h, z, hz => by exact ok.elim
  | k, d + 1, .rep c b, ok, h, z, hz => by
    have hz : z ∈ [ind k ++ lineOf (.rep c b)] ++ blkLines (k + 1) b ++ passL (k + 1) b := hz
    have ok' : c < 13 ∧ ∀ s ∈ b, StaOk d s := ok
    simp only [List.mem_append] at hz
    rcases hz with (hz | hz) | hz
    · rw [List.mem_singleton.mp hz]
      exact first_le ok (by omega)
    · exact blkLines_le (k + 1) d b ok'.2 (by omega) z hz
    · exact passL_le _ _ (by omega) z hz
theorem blkLines_le : ∀ (k d : Nat) (b : List Sta), (∀ s ∈ b, StaOk d s) → k + d ≤ 10 → ∀ y ∈ blkLines k b, y.length ≤ 200
  | _, _, [], _, _, _, hy => nomatch hy
  | k, d, s :: r, ok, h, y, hy => by
    have hy : y ∈ staLines k s ++ blkLines k r := hy
    rcases List.mem_append.mp hy with hy | hy
    · exact staLines_le k d s (ok s (List.mem_cons_self ..)) h y hy
    · exact blkLines_le k d r (fun z hz => ok z (List.mem_cons_of_mem _ hz)) h y hy
end
theorem all_le {g : Nat} {b : List Sta} (hg : g < 4) (ok : ∀ s ∈ b, StaOk 5 s) : ∀ y ∈ allLines g b, y.length ≤ 200 := by
  intro y hy
  rcases List.mem_cons.mp hy with rfl | hy
  · have := intS_len g (by omega)
    rw [strLen_append, strLen_append]
    show 0 + 7 + _ ≤ 200
    omega
  · exact blkLines_le 0 5 b ok (by omega) y hy
theorem all_len {g : Nat} {b : List Sta} (hz : sizeB b ≤ 100) : (allLines g b).length ≤ 301 := by
  have := blkLines_len 0 b
  show (blkLines 0 b).length + 1 ≤ 301
  omega
section
variable {P : Program} {w : World} {K : PySem.W.Frag} {mg : Str → Option Value} {base : Heap}
theorem ok_blks {f fL : Addr} {fd dL : FuncData} {tk : Tok} (D : Df K mg "_block_lines" s__block_lines ["block", "depth"] f fd) (mI : mg "INDENT" = some (.str (Str.ofString "  ") tk))
    (DL : Df K mg "line_of" s_line_of ["statement"] fL dL) (GL : FnOk P w K mg base CX0 5 fL dL ["statement"] spLine) : FnOk P w K mg base CX0 11 f fd ["block", "depth"] (spBLk 5) := by
  have Z : FnOk P w K mg base CX0 5 f fd ["block", "depth"] (spBLk' 0) := ⟨fun _ _ _ _ h => h.elim, fun _ _ _ _ _ _ _ _ _ _ _ _ _ h => h.elim⟩
  have B0 := ok_bl (d := 0) D.F mI DL.m DL.F.kp DL.b GL D.m D.F.kp D.b (by decide) Z
  have B1 := ok_bl (d := 1) D.F mI DL.m DL.F.kp DL.b GL D.m D.F.kp D.b (by decide) B0
  have B2 := ok_bl (d := 2) D.F mI DL.m DL.F.kp DL.b GL D.m D.F.kp D.b (by decide) B1
  have B3 := ok_bl (d := 3) D.F mI DL.m DL.F.kp DL.b GL D.m D.F.kp D.b (by decide) B2
  have B4 := ok_bl (d := 4) D.F mI DL.m DL.F.kp DL.b GL D.m D.F.kp D.b (by decide) B3
  exact ok_bl (d := 5) D.F mI DL.m DL.F.kp DL.b GL D.m D.F.kp D.b (by decide) B4
abbrev s_program_text : Stmt := top 6
abbrev n_program_text : List Str := ["program", "lines"]
theorem sc_program_text : FnScope n_program_text ["program"] (defScope s_program_text) := ⟨rfl, rfl, rfl, by decide +kernel, rfl, by decide +kernel, by decide +kernel⟩
def spPT : Sp := fun vs H Q _ => ∃ (v : V) (g : Nat) (b : List Sta), vs = [v] ∧ TD H v (.tuple [.int (g : Int), .tuple (blkData b)]) ∧ g < 4 ∧ (∀ s ∈ b, StaOk 5 s) ∧ sizeB b ≤ 100 ∧ ∀ H', Same H H' → Q (.str (Txt.join (Str.ofString "\n") (allLines g b))) H'
theorem ok_pt {f fB : Addr} {fd dB : FuncData} (F : Fun K "program_text" "program_text" s_program_text f fd)
    (DB : Df K mg "_block_lines" s__block_lines ["block", "depth"] fB dB) (GB : FnOk P w K mg base CX0 11 fB dB ["block", "depth"] (spBLk 5)) : FnOk P w K mg base CX0 12 f fd ["program"] spPT := by
  refine F.ok sc_program_text (fun vs H Q E ⟨v, g, b, ev, _⟩ => by rw [ev]; rfl) (fun cdv A outer s0 H vs Q E hr ⟨v, g, b, ev, td, hg, ok, hz, q⟩ => ?_)
  subst ev
  refine ⟨_, (pss_cons (ps_set (i := 1) sc_program_text.nd rfl (.inl rfl) (pe_op op_cat (pe_lst (pa_cons (pe_joined (.cons pe_str (.cons (pe_fmt (pe_ix ix_tup (pv 0) pe_int (fun _ _ => rfl))) .nil))) pa_nil)) (pe_call GB hr (by rfl) DB.m DB.F.kp DB.b .nil pass0 (pa_cons (pe_ix ix_tup (pv 0) pe_int (fun _ _ => rfl)) (pa_cons pe_int pa_nil)))))
      (pss_one (ps_ret (pe_join pe_str (pv 1))))), ?_⟩
  obtain ⟨r0, xs, rfl, gr0, e0⟩ := td_tup td
  obtain ⟨v1, ys, rfl, d1, e1⟩ := tds_cons e0
  cases d1
  obtain ⟨v2, rfl, d2⟩ := tds1 e1
  obtain ⟨rb, zs, rfl, gz, dz⟩ := td_tup d2
  have hl : (Str.ofString (toString (g : Int))).length ≤ 2 := intS_len g (by omega)
  have q0 := e_len
  have q1 : (Str.ofString "givens ").length = 7 := rfl
  refine ⟨_, rfl, line1000 (by simp only [strLen_append]; omega), _, rfl, r0, _, _, _, rfl, rfl, SqT.of gr0, atI_nat (j := 0) rfl, .inr ⟨_, rfl, log4 hg, _, rfl, line1000 (by simp only [strLen_append]; omega), ?_⟩⟩
  refine ⟨line1000 (Nat.le_of_ble_eq_true rfl), fun L1 n1 => ?_⟩
  have s1 := Same.up (o := HO.lst [V.str (Str.empty ++ Str.ofString "givens " ++ Str.ofString (toString (g : Int)))]) n1
  have g1 : upd H L1 (HO.lst [V.str (Str.empty ++ Str.ofString "givens " ++ Str.ofString (toString (g : Int)))]) L1 = some (.lst [V.str (Str.empty ++ Str.ofString "givens " ++ Str.ofString (toString (g : Int)))]) := upd_same
  have gr1 := s1 _ _ gr0
  have gz1 := s1 _ _ gz
  have dz1 := TDs.ch (Ch.same (S := []) s1) _ _ dz
  generalize upd H L1 (HO.lst [V.str (Str.empty ++ Str.ofString "givens " ++ Str.ofString (toString (g : Int)))]) = H1 at s1 g1 gr1 gz1 dz1 ⊢
  have hz1 := blkLines_len 0 b
  refine ⟨_, rfl, r0, _, _, _, rfl, rfl, SqT.of gr1, atI_nat (j := 1) rfl, .ref rb, b, 0, rfl, .tup gz1 dz1, ok, by omega, hz, fun H2 p s2 np gp => ?_⟩
  have g2 := s2 _ _ g1
  refine ⟨L1, p, _, _, rfl, rfl, g2, gp, Nat.le_of_lt (lt_line (by simp only [List.length_map, List.length_cons, List.length_nil]; omega)), fun L3 n3 => ?_⟩
  have s3 := Same.up (o := HO.lst ([V.str (Str.empty ++ Str.ofString "givens " ++ Str.ofString (toString (g : Int)))] ++ (blkLines 0 b).map V.str)) n3
  refine ⟨⟨_, rfl⟩, _, rfl, Str.ofString "\n", L3, allLines g b, rfl, rfl, .inl (SqL.of upd_same), ?_, q _ (Same.trans (Same.trans s1 s2) s3)⟩
  have e1 := sum_le (allLines g b) 200 (all_le hg ok)
  have e2 := all_len (g := g) hz
  show ((allLines g b).map (·.length)).sum + (allLines g b).length * 1 ≤ 16777216
  omega
end
end G

set_option Elab.async false
set_option linter.all false
set_option maxRecDepth 100000
set_option maxHeartbeats 4000000
/-! k06: str(item) of any item; the items' bounds. -/
namespace G
open PySem PySem.Spec PyProof.Rows L2
/-- str(d) -/
def strD : PyData → Str
  | .str x => x
  | d => d.shown
structure Showy (d : PyData) (n : Nat) : Prop where
  s : d.showable = true
  h : d.hasDict = false
  o : OkD d
  p : d.depth ≤ 100
  b : big d ≤ n
def rStrD (K : PySem.W.Frag) : List V → Hp → VK → Prop := fun vs H Q => ∃ (v : V) (d : PyData), vs = [v] ∧ Dp K H v d ∧ Showy d 1000000 ∧ Q (.str (strD d)) H
theorem call_strD {X : Cx} (hg : X.A.guards = some []) (hu : X.A.units + 104 < cLine) : CallR X (.type "str") (rStrD X.K) := by
  intro pins s σ H vs us Q I r h
  obtain ⟨v, d, rfl, hd, ⟨hs, hn, ok, hdep, hb⟩, q⟩ := h
  have hz : d.shown.length ≤ sizeLine := Nat.le_trans (shown_le d ok) (by rw [sizeLine_eq]; omega)
  obtain ⟨u, rfl, rv⟩ := vals1 r
  obtain ⟨as, rd⟩ := Dp.reads I d v u hd rv
  cases hd with
  | non =>
    cases rv
    exact PySem.P.str_of_none ⟨.str _, H, I.tok _, ⟨_, rfl⟩, by simpa only [strD, PyData.shown] using q⟩
  | bl b =>
    cases rv
    exact PySem.P.str_of_bool ⟨.str _, H, I.tok _, ⟨_, rfl⟩, by simpa only [strD, PyData.shown] using q⟩
  | int i =>
    obtain ⟨t, rfl⟩ := rv
    exact PySem.P.str_of_int (by simpa [PyData.showable] using hs) ⟨.str _, H, I.tok _, ⟨_, rfl⟩, by simpa only [strD, PyData.shown] using q⟩
  | str x =>
    obtain ⟨t, rfl⟩ := rv
    exact PySem.P.str_of_str ⟨.str x, H, I, ⟨t, rfl⟩, q⟩
  | lst h1 h2 =>
    cases rv
    exact str_of_reads rd hs (PyData.noDict_hsm hn) hg (by omega) (fun _ _ e => e) (fun h' t tk hk => ⟨.str _, H, I.kept hk, ⟨_, rfl⟩, q⟩) hz
  | tup h1 h2 =>
    cases rv
    exact str_of_reads rd hs (PyData.noDict_hsm hn) hg (by omega) (fun _ _ e => e) (fun h' t tk hk => ⟨.str _, H, I.kept hk, ⟨_, rfl⟩, q⟩) hz
mutual
theorem TD.dp {K : PySem.W.Frag} {H : Hp} : ∀ (d : PyData) (v : V), TD H v d → Dp K H v d
  | .none, _, h => by cases h; exact .non
  | .bool b, _, h => by cases h; exact .bl b
  | .int i, _, h => by cases h; exact .int i
  | .str x, _, h => by cases h; exact .str x
  | .list ds, _, h => nomatch h
  | .tuple ds, _, h => by
    cases h with
    | tup h1 h2 => exact .tup (SqT.of h1) (TDs.dp ds _ h2)
  | .dict _, _, h => nomatch h
theorem TDs.dp {K : PySem.W.Frag} {H : Hp} : ∀ (ds : List PyData) (vs : List V), TDs H vs ds → DpAll K H vs ds
  | [], _, h => by cases h; exact .nil
  | d :: ds, _, h => by
    cases h with
    | cons h1 h2 => exact .cons (TD.dp d _ h1) (TDs.dp ds _ h2)
end
/-! ### the items' bounds -/
structure ShowyS (ds : List PyData) (p n : Nat) : Prop where
  s : PyData.showableAll ds = true
  h : PyData.hasDictAll ds = false
  o : OkDs ds
  p : PyData.depthAll ds ≤ p
  b : bigs ds ≤ n
structure ShowyP (d : PyData) (p n : Nat) : Prop where
  s : d.showable = true
  h : d.hasDict = false
  o : OkD d
  p : d.depth ≤ p
  b : big d ≤ n
theorem ShowyS.nil {p : Nat} : ShowyS [] p 0 := ⟨rfl, rfl, trivial, Nat.zero_le _, Nat.zero_le _⟩
theorem ShowyS.cons {d : PyData} {ds : List PyData} {p n m : Nat} (a : ShowyP d p n) (b : ShowyS ds p m) : ShowyS (d :: ds) p (n + 2 + m) := by
  have a4 := a.p
  have a5 := a.b
  have b4 := b.p
  have b5 := b.b
  refine ⟨?_, ?_, ⟨a.o, b.o⟩, ?_, ?_⟩
  · simp only [PyData.showableAll, a.s, b.s, Bool.and_self]
  · simp only [PyData.hasDictAll, a.h, b.h, Bool.or_self]
  · simp only [PyData.depthAll]
    omega
  · simp only [bigs]
    omega
theorem ShowyS.tup {ds : List PyData} {p n : Nat} (a : ShowyS ds p n) : ShowyP (.tuple ds) (p + 1) (n + 4) :=
  ⟨a.s, a.h, a.o, Nat.add_le_add_right a.p 1, Nat.add_le_add_right a.b 4⟩
theorem ShowyP.mono {d : PyData} {p n p' n' : Nat} (a : ShowyP d p n) (hp : p ≤ p') (hn : n ≤ n') : ShowyP d p' n' := ⟨a.s, a.h, a.o, Nat.le_trans a.p hp, Nat.le_trans a.b hn⟩
theorem ShowyS.mono {d : List PyData} {p n p' n' : Nat} (a : ShowyS d p n) (hp : p ≤ p') (hn : n ≤ n') : ShowyS d p' n' := ⟨a.s, a.h, a.o, Nat.le_trans a.p hp, Nat.le_trans a.b hn⟩
theorem showy_nm {x : Str} (h : Nm x) (p : Nat) : ShowyP (.str x) p 82 := ⟨rfl, rfl, h.2, Nat.zero_le _, by have := h.1; show 10 * x.length + 2 ≤ 82; omega⟩
theorem showy_kw (s : String) (h : s.length ≤ 8) (p : Nat) : ShowyP (.str (Str.ofString s)) p 82 := ⟨rfl, rfl, OkS.of s, Nat.zero_le _, by
  have e : (Str.ofString s).length = s.length := by
    show (Str.ofString s).cps.size = _
    rw [← Array.length_toList, PyProof.Rows.signs_ofString, List.length_map]
    rfl
  show 10 * (Str.ofString s).length + 2 ≤ 82
  omega⟩
theorem showy_int {i : Nat} (h : i < 13) (p : Nat) : ShowyP (.int (i : Int)) p 82 := ⟨decide_eq_true (log13 h), rfl, trivial, Nat.zero_le _, Nat.le_trans (intS_len i (by omega)) (by decide)⟩
theorem showy_tst : ∀ (t : Tst), t.nm → ShowyP t.data (t.depth + 1) (400 + 100 * t.depth)
  | .given i, h => by
    have h : i < 4 := h
    exact (((showy_kw "given" (by decide) 0).mono (Nat.le_refl _) (Nat.le_refl _) |> fun a => ShowyS.cons a (ShowyS.cons (showy_int (by omega) 0) .nil)).tup).mono (Nat.le_refl _) (Nat.le_of_ble_eq_true rfl)
  | .set x, h => (ShowyS.cons (showy_kw "set" (by decide) 0) (ShowyS.cons (showy_nm h 0) .nil)).tup.mono (Nat.le_refl _) (Nat.le_of_ble_eq_true rfl)
  | .same x y, h => (ShowyS.cons (showy_kw "same" (by decide) 0) (ShowyS.cons (showy_nm h.1 0) (ShowyS.cons (showy_nm h.2 0) .nil))).tup.mono (Nat.le_refl _) (Nat.le_of_ble_eq_true rfl)
  | .full x y, h => (ShowyS.cons (showy_kw "full" (by decide) 0) (ShowyS.cons (showy_nm h.1 0) (ShowyS.cons (showy_nm h.2 0) .nil))).tup.mono (Nat.le_refl _) (Nat.le_of_ble_eq_true rfl)
  | .wished x, h => (ShowyS.cons (showy_kw "wished" (by decide) 0) (ShowyS.cons (showy_nm h 0) .nil)).tup.mono (Nat.le_refl _) (Nat.le_of_ble_eq_true rfl)
  | .not t, h => by
    have ih := showy_tst t h
    refine ((ShowyS.cons (showy_kw "not" (by decide) _) (ShowyS.cons ih .nil)).tup).mono (Nat.le_refl _) ?_
    show 82 + 2 + (400 + 100 * t.depth + 2 + 0) + 4 ≤ 400 + 100 * (t.depth + 1)
    omega
theorem showy_tst' {t : Tst} (h : t.ok) : ShowyP t.data 4 700 := (showy_tst t h.1).mono (by have := h.2; omega) (by have := h.2; omega)
theorem showy_act {a : Act} (h : a.nm) : ShowyP a.data 5 900 := by
  cases a with
  | make x => exact (ShowyS.cons (showy_kw "make" (by decide) 0) (ShowyS.cons (showy_nm h 0) .nil)).tup.mono (by decide) (by decide)
  | keep x => exact (ShowyS.cons (showy_kw "keep" (by decide) 0) (ShowyS.cons (showy_nm h 0) .nil)).tup.mono (by decide) (by decide)
  | drop x => exact (ShowyS.cons (showy_kw "drop" (by decide) 0) (ShowyS.cons (showy_nm h 0) .nil)).tup.mono (by decide) (by decide)
  | say x => exact (ShowyS.cons (showy_kw "say" (by decide) 0) (ShowyS.cons (showy_nm h 0) .nil)).tup.mono (by decide) (by decide)
  | wish x y => exact (ShowyS.cons (showy_kw "wish" (by decide) 0) (ShowyS.cons (showy_nm h.1 0) (ShowyS.cons (showy_nm h.2 0) .nil))).tup.mono (by decide) (by decide)
  | name x y => exact (ShowyS.cons (showy_kw "name" (by decide) 0) (ShowyS.cons (showy_nm h.1 0) (ShowyS.cons (showy_nm h.2 0) .nil))).tup.mono (by decide) (by decide)
  | cut x y => exact (ShowyS.cons (showy_kw "cut" (by decide) 0) (ShowyS.cons (showy_nm h.1 0) (ShowyS.cons (showy_nm h.2 0) .nil))).tup.mono (by decide) (by decide)
  | hold x y z => exact (ShowyS.cons (showy_kw "hold" (by decide) 0) (ShowyS.cons (showy_nm h.1 0) (ShowyS.cons (showy_nm h.2.1 0) (ShowyS.cons (showy_nm h.2.2 0) .nil)))).tup.mono (by decide) (by decide)
  | weak x y z => exact (ShowyS.cons (showy_kw "weak" (by decide) 0) (ShowyS.cons (showy_nm h.1 0) (ShowyS.cons (showy_nm h.2.1 0) (ShowyS.cons (showy_nm h.2.2 0) .nil)))).tup.mono (by decide) (by decide)
  | take x y z => exact (ShowyS.cons (showy_kw "take" (by decide) 0) (ShowyS.cons (showy_nm h.1 0) (ShowyS.cons (showy_nm h.2.1 0) (ShowyS.cons (showy_nm h.2.2 0) .nil)))).tup.mono (by decide) (by decide)
  | ask t => exact (ShowyS.cons (showy_kw "ask" (by decide) 4) (ShowyS.cons (showy_tst' h) .nil)).tup.mono (by decide) (by decide)
theorem sz1 (s : Sta) : 1 ≤ s.size := by cases s <;> first | exact Nat.le_refl 1 | exact Nat.le_add_right 1 _
mutual
theorem showy_sta : ∀ (d : Nat) (s : Sta), StaOk d s → ShowyP s.data (5 + 2 * d) (1000 * s.size - 2)
  | d, .act a, h => by
    have h : a.nm := by cases d <;> exact h
    exact (showy_act h).mono (by omega) (Nat.le_of_ble_eq_true rfl)
  | 0, .cond t y n, h => h.elim
  | d + 1, .cond t y n, h => by
    have h1 := showy_blk d y h.2.1
    have h2 := showy_blk d n h.2.2
    refine (ShowyS.cons (showy_kw "if" (by decide) (5 + 2 * d + 1)) (ShowyS.cons ((showy_tst' h.1).mono (by omega) (Nat.le_refl _)) (ShowyS.cons h1.tup (ShowyS.cons h2.tup .nil)))).tup.mono (by omega) ?_
    show 82 + 2 + (700 + 2 + (1000 * sizeB y + 4 + 2 + (1000 * sizeB n + 4 + 2 + 0))) + 4 ≤ 1000 * (1 + (sizeB y + sizeB n)) - 2
    omega
  | 0, .rep k b, h => h.elim
  | d + 1, .rep k b, h => by
    have h1 := showy_blk d b h.2
    refine (ShowyS.cons (showy_kw "repeat" (by decide) (5 + 2 * d + 1)) (ShowyS.cons (showy_int h.1 _) (ShowyS.cons h1.tup .nil))).tup.mono (by omega) ?_
    show 82 + 2 + (82 + 2 + (1000 * sizeB b + 4 + 2 + 0)) + 4 ≤ 1000 * (1 + sizeB b) - 2
    omega
theorem showy_blk : ∀ (d : Nat) (b : List Sta), (∀ s ∈ b, StaOk d s) → ShowyS (blkData b) (5 + 2 * d) (1000 * sizeB b)
  | d, [], h => .nil
  | d, s :: r, h => by
    have h1 := showy_sta d s (h s (List.mem_cons_self ..))
    have h2 := showy_blk d r fun z hz => h z (List.mem_cons_of_mem _ hz)
    have := sz1 s
    refine (ShowyS.cons h1 h2).mono (Nat.le_refl _) ?_
    show 1000 * s.size - 2 + 2 + 1000 * sizeB r ≤ 1000 * (s.size + sizeB r)
    omega
end
end G

set_option Elab.async false
set_option linter.all false
set_option maxRecDepth 100000
set_option maxHeartbeats 4000000
/-! k06: the law's text of a test. Written by mkU13.py. -/
namespace G
open PySem PySem.Spec PyProof.Rows L2
theorem e_app (x : Str) : Str.empty ++ x = x := by
  show Str.mk (#[] ++ x.cps) = x
  simp
/-- str(x) of an int or of a text -/
def rStrIS : List V → Hp → VK → Prop := fun xs H Q => (∃ i : Int, xs = [.int i] ∧ i.natAbs.log2 < 1920 ∧ Q (.str (Str.ofString (toString i))) H) ∨ ∃ a, xs = [.str a] ∧ Q (.str a) H
theorem call_strIS {X : Cx} : CallR X (.type "str") rStrIS := by
  intro pins s σ H xs us Q I r h
  rcases h with h | h
  · exact call_str_int pins s σ H xs us Q I r h
  · exact SkE.call_str_str pins s σ H xs us Q I r h
section
variable {P : Program} {w : World} {K : PySem.W.Frag} {mg : Str → Option Value} {base : Heap}
abbrev s__law_test_text : Stmt := top 21
abbrev n__law_test_text : List Str := ["_law_test"]
theorem sc__law_test_text : FnScope n__law_test_text ["_law_test"] (defScope s__law_test_text) := ⟨rfl, rfl, rfl, by decide +kernel, rfl, by decide +kernel, by decide +kernel⟩
theorem ok_lt0 {f : Addr} {fd : FuncData} (F : Fun K "_law_test_text" "_law_test_text" s__law_test_text f fd) (z_str : mg "str" = none) : FnOk P w K mg base CX0 1 f fd ["_law_test"] (spWT 0) := by
  refine F.ok sc__law_test_text (fun vs H Q E ⟨v, t, ev, _⟩ => by rw [ev]; rfl) (fun cdv A outer s H vs Q E hr ⟨v, t, ev, td, tn, t0, t3, q⟩ => ?_)
  subst ev
  refine ⟨_, (pss_cons (ps_if (pt_cmpR op_eq (pe_ix ix_tup (pv 0) pe_int (fun _ _ => rfl)) pe_str (nomark _))
      (pss_one (ps_ret (pe_op op_add_str pe_str pe_never)))
      pss_nil)
      (pss_cons (ps_if (pt_cmpR op_eq (pe_ix ix_tup (pv 0) pe_int (fun _ _ => rfl)) pe_str (nomark _))
      (pss_one (ps_ret (pe_op op_add_str (pe_op op_add_str (pe_ix ix_tup (pv 0) pe_int (fun _ _ => rfl)) pe_str) (pe_ix ix_tup (pv 0) pe_int (fun _ _ => rfl)))))
      pss_nil)
      (pss_cons (ps_if (pt_cmpR op_eq (pe_ix ix_tup (pv 0) pe_int (fun _ _ => rfl)) pe_str (nomark _))
      (pss_one (ps_ret (pe_op op_add_str (pe_op op_add_str (pe_op op_add_str pe_str (pe_ix ix_tup (pv 0) pe_int (fun _ _ => rfl))) pe_str) (pe_ix ix_tup (pv 0) pe_int (fun _ _ => rfl)))))
      pss_nil)
      (pss_one (ps_ret (pe_op op_add_str (pe_op op_add_str (pe_ix ix_tup (pv 0) pe_int (fun _ _ => rfl)) pe_str) (pe_callTy call_strIS (by rfl) z_str (by decide +kernel) (pa_cons (pe_ix ix_tup (pv 0) pe_int (fun _ _ => rfl)) pa_nil)))))))), ?_⟩
  have q0 := e_len
  have q1 : (Str.ofString "given").length = 5 := rfl
  have q2 : (Str.ofString " ").length = 1 := rfl
  have q3 : (Str.ofString " is ").length = 4 := rfl
  have q4 : (Str.ofString "full ").length = 5 := rfl
  have q5 : (Str.ofString ".").length = 1 := rfl
  have q6 : (Str.ofString "not ").length = 4 := rfl
  have q7 : (Str.ofString "set").length = 3 := rfl
  have q8 : (Str.ofString "wished").length = 6 := rfl
  cases t with
  | given i =>
    obtain ⟨r, xs, rfl, gr, ds⟩ := td_tup td
    obtain ⟨v1, xs, rfl, d1, ds⟩ := tds_cons ds
    obtain ⟨v2, rfl, d2⟩ := tds1 ds
    cases d1; cases d2
    have hi : i < 4 := tn
    have hl : (Str.ofString (toString (i : Int))).length ≤ 2 := intS_len i (by omega)
    refine ⟨_, rfl, r, _, _, _, rfl, rfl, SqT.of gr, atI_nat (j := 0) rfl, rfl, _, rfl, ite2 (fun h => absurd h (by decide)) (fun _ => ?_)⟩
    refine ⟨_, rfl, r, _, _, _, rfl, rfl, SqT.of gr, atI_nat (j := 0) rfl, rfl, _, rfl, ite2 (fun h => absurd h (by decide)) (fun _ => ?_)⟩
    refine ⟨_, rfl, r, _, _, _, rfl, rfl, SqT.of gr, atI_nat (j := 0) rfl, rfl, _, rfl, ite2 (fun h => absurd h (by decide)) (fun _ => ?_)⟩
    have z := q _ (Same.refl _)
    simp only [tstText, e_app] at z
    exact ⟨_, rfl, r, _, _, _, rfl, rfl, SqT.of gr, atI_nat (j := 0) rfl, _, _, rfl, rfl, line1000 (by (try simp only [strLen_append]); omega), _, rfl, r, _, _, _, rfl, rfl, SqT.of gr, atI_nat (j := 1) rfl, .inl ⟨_, rfl, log4 hi, _, _, rfl, rfl, line1000 (by (try simp only [strLen_append]); omega), z⟩⟩
  | set x =>
    obtain ⟨r, xs, rfl, gr, ds⟩ := td_tup td
    obtain ⟨v1, xs, rfl, d1, ds⟩ := tds_cons ds
    obtain ⟨v2, rfl, d2⟩ := tds1 ds
    cases d1; cases d2
    have hx : Nm x := tn
    have := hx.1
    refine ⟨_, rfl, r, _, _, _, rfl, rfl, SqT.of gr, atI_nat (j := 0) rfl, rfl, _, rfl, ite2 (fun h => absurd h (by decide)) (fun _ => ?_)⟩
    refine ⟨_, rfl, r, _, _, _, rfl, rfl, SqT.of gr, atI_nat (j := 0) rfl, rfl, _, rfl, ite2 (fun h => absurd h (by decide)) (fun _ => ?_)⟩
    refine ⟨_, rfl, r, _, _, _, rfl, rfl, SqT.of gr, atI_nat (j := 0) rfl, rfl, _, rfl, ite2 (fun h => absurd h (by decide)) (fun _ => ?_)⟩
    have z := q _ (Same.refl _)
    simp only [tstText, e_app] at z
    exact ⟨_, rfl, r, _, _, _, rfl, rfl, SqT.of gr, atI_nat (j := 0) rfl, _, _, rfl, rfl, line1000 (by (try simp only [strLen_append]); omega), _, rfl, r, _, _, _, rfl, rfl, SqT.of gr, atI_nat (j := 1) rfl, .inr ⟨_, rfl, _, _, rfl, rfl, line1000 (by (try simp only [strLen_append]); omega), z⟩⟩
  | same x y =>
    obtain ⟨r, xs, rfl, gr, ds⟩ := td_tup td
    obtain ⟨v1, xs, rfl, d1, ds⟩ := tds_cons ds
    obtain ⟨v2, xs, rfl, d2, ds⟩ := tds_cons ds
    obtain ⟨v3, rfl, d3⟩ := tds1 ds
    cases d1; cases d2; cases d3
    have hx : Nm x ∧ Nm y := tn
    have := hx.1.1
    have := hx.2.1
    refine ⟨_, rfl, r, _, _, _, rfl, rfl, SqT.of gr, atI_nat (j := 0) rfl, rfl, _, rfl, ite2 (fun h => absurd h (by decide)) (fun _ => ?_)⟩
    refine ⟨_, rfl, r, _, _, _, rfl, rfl, SqT.of gr, atI_nat (j := 0) rfl, rfl, _, rfl, ite2 (fun _ => ?_) (fun h => absurd (by decide) h)⟩
    have z := q _ (Same.refl _)
    simp only [tstText, e_app] at z
    exact ⟨_, rfl, r, _, _, _, rfl, rfl, SqT.of gr, atI_nat (j := 1) rfl, _, _, rfl, rfl, line1000 (by (try simp only [strLen_append]); omega), _, rfl, r, _, _, _, rfl, rfl, SqT.of gr, atI_nat (j := 2) rfl, _, _, rfl, rfl, line1000 (by (try simp only [strLen_append]); omega), z⟩
  | full x f =>
    obtain ⟨r, xs, rfl, gr, ds⟩ := td_tup td
    obtain ⟨v1, xs, rfl, d1, ds⟩ := tds_cons ds
    obtain ⟨v2, xs, rfl, d2, ds⟩ := tds_cons ds
    obtain ⟨v3, rfl, d3⟩ := tds1 ds
    cases d1; cases d2; cases d3
    have hx : Nm x ∧ Nm f := tn
    have := hx.1.1
    have := hx.2.1
    refine ⟨_, rfl, r, _, _, _, rfl, rfl, SqT.of gr, atI_nat (j := 0) rfl, rfl, _, rfl, ite2 (fun h => absurd h (by decide)) (fun _ => ?_)⟩
    refine ⟨_, rfl, r, _, _, _, rfl, rfl, SqT.of gr, atI_nat (j := 0) rfl, rfl, _, rfl, ite2 (fun h => absurd h (by decide)) (fun _ => ?_)⟩
    refine ⟨_, rfl, r, _, _, _, rfl, rfl, SqT.of gr, atI_nat (j := 0) rfl, rfl, _, rfl, ite2 (fun _ => ?_) (fun h => absurd (by decide) h)⟩
    have z := q _ (Same.refl _)
    simp only [tstText, e_app] at z
    exact ⟨_, rfl, r, _, _, _, rfl, rfl, SqT.of gr, atI_nat (j := 1) rfl, _, _, rfl, rfl, line1000 (by (try simp only [strLen_append]); omega), _, _, rfl, rfl, line1000 (by (try simp only [strLen_append]); omega), _, rfl, r, _, _, _, rfl, rfl, SqT.of gr, atI_nat (j := 2) rfl, _, _, rfl, rfl, line1000 (by (try simp only [strLen_append]); omega), z⟩
  | wished x =>
    obtain ⟨r, xs, rfl, gr, ds⟩ := td_tup td
    obtain ⟨v1, xs, rfl, d1, ds⟩ := tds_cons ds
    obtain ⟨v2, rfl, d2⟩ := tds1 ds
    cases d1; cases d2
    have hx : Nm x := tn
    have := hx.1
    refine ⟨_, rfl, r, _, _, _, rfl, rfl, SqT.of gr, atI_nat (j := 0) rfl, rfl, _, rfl, ite2 (fun h => absurd h (by decide)) (fun _ => ?_)⟩
    refine ⟨_, rfl, r, _, _, _, rfl, rfl, SqT.of gr, atI_nat (j := 0) rfl, rfl, _, rfl, ite2 (fun h => absurd h (by decide)) (fun _ => ?_)⟩
    refine ⟨_, rfl, r, _, _, _, rfl, rfl, SqT.of gr, atI_nat (j := 0) rfl, rfl, _, rfl, ite2 (fun h => absurd h (by decide)) (fun _ => ?_)⟩
    have z := q _ (Same.refl _)
    simp only [tstText, e_app] at z
    exact ⟨_, rfl, r, _, _, _, rfl, rfl, SqT.of gr, atI_nat (j := 0) rfl, _, _, rfl, rfl, line1000 (by (try simp only [strLen_append]); omega), _, rfl, r, _, _, _, rfl, rfl, SqT.of gr, atI_nat (j := 1) rfl, .inr ⟨_, rfl, _, _, rfl, rfl, line1000 (by (try simp only [strLen_append]); omega), z⟩⟩
  | not t => exact absurd t0 (by show ¬ t.depth + 1 ≤ 0; omega)
theorem ok_ltS {f : Addr} {fd : FuncData} {d k : Nat} (F : Fun K "_law_test_text" "_law_test_text" s__law_test_text f fd) (z_str : mg "str" = none) (m : mg "_law_test_text" = some (.ref f)) (b : Binds K fd ["_law_test"] []) (G : FnOk P w K mg base CX0 k f fd ["_law_test"] (spWT d)) : FnOk P w K mg base CX0 (k + 1) f fd ["_law_test"] (spWT (d + 1)) := by
  refine F.ok sc__law_test_text (fun vs H Q E ⟨v, t, ev, _⟩ => by rw [ev]; rfl) (fun cdv A outer s H vs Q E hr ⟨v, t, ev, td, tn, t0, t3, q⟩ => ?_)
  subst ev
  refine ⟨_, (pss_cons (ps_if (pt_cmpR op_eq (pe_ix ix_tup (pv 0) pe_int (fun _ _ => rfl)) pe_str (nomark _))
      (pss_one (ps_ret (pe_op op_add_str pe_str (pe_call G hr (by rfl) m F.kp b .nil pass0 (pa_cons (pe_ix ix_tup (pv 0) pe_int (fun _ _ => rfl)) pa_nil)))))
      pss_nil)
      (pss_cons (ps_if (pt_cmpR op_eq (pe_ix ix_tup (pv 0) pe_int (fun _ _ => rfl)) pe_str (nomark _))
      (pss_one (ps_ret (pe_op op_add_str (pe_op op_add_str (pe_ix ix_tup (pv 0) pe_int (fun _ _ => rfl)) pe_str) (pe_ix ix_tup (pv 0) pe_int (fun _ _ => rfl)))))
      pss_nil)
      (pss_cons (ps_if (pt_cmpR op_eq (pe_ix ix_tup (pv 0) pe_int (fun _ _ => rfl)) pe_str (nomark _))
      (pss_one (ps_ret (pe_op op_add_str (pe_op op_add_str (pe_op op_add_str pe_str (pe_ix ix_tup (pv 0) pe_int (fun _ _ => rfl))) pe_str) (pe_ix ix_tup (pv 0) pe_int (fun _ _ => rfl)))))
      pss_nil)
      (pss_one (ps_ret (pe_op op_add_str (pe_op op_add_str (pe_ix ix_tup (pv 0) pe_int (fun _ _ => rfl)) pe_str) (pe_callTy call_strIS (by rfl) z_str (by decide +kernel) (pa_cons (pe_ix ix_tup (pv 0) pe_int (fun _ _ => rfl)) pa_nil)))))))), ?_⟩
  have q0 := e_len
  have q1 : (Str.ofString "given").length = 5 := rfl
  have q2 : (Str.ofString " ").length = 1 := rfl
  have q3 : (Str.ofString " is ").length = 4 := rfl
  have q4 : (Str.ofString "full ").length = 5 := rfl
  have q5 : (Str.ofString ".").length = 1 := rfl
  have q6 : (Str.ofString "not ").length = 4 := rfl
  have q7 : (Str.ofString "set").length = 3 := rfl
  have q8 : (Str.ofString "wished").length = 6 := rfl
  cases t with
  | given i =>
    obtain ⟨r, xs, rfl, gr, ds⟩ := td_tup td
    obtain ⟨v1, xs, rfl, d1, ds⟩ := tds_cons ds
    obtain ⟨v2, rfl, d2⟩ := tds1 ds
    cases d1; cases d2
    have hi : i < 4 := tn
    have hl : (Str.ofString (toString (i : Int))).length ≤ 2 := intS_len i (by omega)
    refine ⟨_, rfl, r, _, _, _, rfl, rfl, SqT.of gr, atI_nat (j := 0) rfl, rfl, _, rfl, ite2 (fun h => absurd h (by decide)) (fun _ => ?_)⟩
    refine ⟨_, rfl, r, _, _, _, rfl, rfl, SqT.of gr, atI_nat (j := 0) rfl, rfl, _, rfl, ite2 (fun h => absurd h (by decide)) (fun _ => ?_)⟩
    refine ⟨_, rfl, r, _, _, _, rfl, rfl, SqT.of gr, atI_nat (j := 0) rfl, rfl, _, rfl, ite2 (fun h => absurd h (by decide)) (fun _ => ?_)⟩
    have z := q _ (Same.refl _)
    simp only [tstText, e_app] at z
    exact ⟨_, rfl, r, _, _, _, rfl, rfl, SqT.of gr, atI_nat (j := 0) rfl, _, _, rfl, rfl, line1000 (by (try simp only [strLen_append]); omega), _, rfl, r, _, _, _, rfl, rfl, SqT.of gr, atI_nat (j := 1) rfl, .inl ⟨_, rfl, log4 hi, _, _, rfl, rfl, line1000 (by (try simp only [strLen_append]); omega), z⟩⟩
  | set x =>
    obtain ⟨r, xs, rfl, gr, ds⟩ := td_tup td
    obtain ⟨v1, xs, rfl, d1, ds⟩ := tds_cons ds
    obtain ⟨v2, rfl, d2⟩ := tds1 ds
    cases d1; cases d2
    have hx : Nm x := tn
    have := hx.1
    refine ⟨_, rfl, r, _, _, _, rfl, rfl, SqT.of gr, atI_nat (j := 0) rfl, rfl, _, rfl, ite2 (fun h => absurd h (by decide)) (fun _ => ?_)⟩
    refine ⟨_, rfl, r, _, _, _, rfl, rfl, SqT.of gr, atI_nat (j := 0) rfl, rfl, _, rfl, ite2 (fun h => absurd h (by decide)) (fun _ => ?_)⟩
    refine ⟨_, rfl, r, _, _, _, rfl, rfl, SqT.of gr, atI_nat (j := 0) rfl, rfl, _, rfl, ite2 (fun h => absurd h (by decide)) (fun _ => ?_)⟩
    have z := q _ (Same.refl _)
    simp only [tstText, e_app] at z
    exact ⟨_, rfl, r, _, _, _, rfl, rfl, SqT.of gr, atI_nat (j := 0) rfl, _, _, rfl, rfl, line1000 (by (try simp only [strLen_append]); omega), _, rfl, r, _, _, _, rfl, rfl, SqT.of gr, atI_nat (j := 1) rfl, .inr ⟨_, rfl, _, _, rfl, rfl, line1000 (by (try simp only [strLen_append]); omega), z⟩⟩
  | same x y =>
    obtain ⟨r, xs, rfl, gr, ds⟩ := td_tup td
    obtain ⟨v1, xs, rfl, d1, ds⟩ := tds_cons ds
    obtain ⟨v2, xs, rfl, d2, ds⟩ := tds_cons ds
    obtain ⟨v3, rfl, d3⟩ := tds1 ds
    cases d1; cases d2; cases d3
    have hx : Nm x ∧ Nm y := tn
    have := hx.1.1
    have := hx.2.1
    refine ⟨_, rfl, r, _, _, _, rfl, rfl, SqT.of gr, atI_nat (j := 0) rfl, rfl, _, rfl, ite2 (fun h => absurd h (by decide)) (fun _ => ?_)⟩
    refine ⟨_, rfl, r, _, _, _, rfl, rfl, SqT.of gr, atI_nat (j := 0) rfl, rfl, _, rfl, ite2 (fun _ => ?_) (fun h => absurd (by decide) h)⟩
    have z := q _ (Same.refl _)
    simp only [tstText, e_app] at z
    exact ⟨_, rfl, r, _, _, _, rfl, rfl, SqT.of gr, atI_nat (j := 1) rfl, _, _, rfl, rfl, line1000 (by (try simp only [strLen_append]); omega), _, rfl, r, _, _, _, rfl, rfl, SqT.of gr, atI_nat (j := 2) rfl, _, _, rfl, rfl, line1000 (by (try simp only [strLen_append]); omega), z⟩
  | full x f =>
    obtain ⟨r, xs, rfl, gr, ds⟩ := td_tup td
    obtain ⟨v1, xs, rfl, d1, ds⟩ := tds_cons ds
    obtain ⟨v2, xs, rfl, d2, ds⟩ := tds_cons ds
    obtain ⟨v3, rfl, d3⟩ := tds1 ds
    cases d1; cases d2; cases d3
    have hx : Nm x ∧ Nm f := tn
    have := hx.1.1
    have := hx.2.1
    refine ⟨_, rfl, r, _, _, _, rfl, rfl, SqT.of gr, atI_nat (j := 0) rfl, rfl, _, rfl, ite2 (fun h => absurd h (by decide)) (fun _ => ?_)⟩
    refine ⟨_, rfl, r, _, _, _, rfl, rfl, SqT.of gr, atI_nat (j := 0) rfl, rfl, _, rfl, ite2 (fun h => absurd h (by decide)) (fun _ => ?_)⟩
    refine ⟨_, rfl, r, _, _, _, rfl, rfl, SqT.of gr, atI_nat (j := 0) rfl, rfl, _, rfl, ite2 (fun _ => ?_) (fun h => absurd (by decide) h)⟩
    have z := q _ (Same.refl _)
    simp only [tstText, e_app] at z
    exact ⟨_, rfl, r, _, _, _, rfl, rfl, SqT.of gr, atI_nat (j := 1) rfl, _, _, rfl, rfl, line1000 (by (try simp only [strLen_append]); omega), _, _, rfl, rfl, line1000 (by (try simp only [strLen_append]); omega), _, rfl, r, _, _, _, rfl, rfl, SqT.of gr, atI_nat (j := 2) rfl, _, _, rfl, rfl, line1000 (by (try simp only [strLen_append]); omega), z⟩
  | wished x =>
    obtain ⟨r, xs, rfl, gr, ds⟩ := td_tup td
    obtain ⟨v1, xs, rfl, d1, ds⟩ := tds_cons ds
    obtain ⟨v2, rfl, d2⟩ := tds1 ds
    cases d1; cases d2
    have hx : Nm x := tn
    have := hx.1
    refine ⟨_, rfl, r, _, _, _, rfl, rfl, SqT.of gr, atI_nat (j := 0) rfl, rfl, _, rfl, ite2 (fun h => absurd h (by decide)) (fun _ => ?_)⟩
    refine ⟨_, rfl, r, _, _, _, rfl, rfl, SqT.of gr, atI_nat (j := 0) rfl, rfl, _, rfl, ite2 (fun h => absurd h (by decide)) (fun _ => ?_)⟩
    refine ⟨_, rfl, r, _, _, _, rfl, rfl, SqT.of gr, atI_nat (j := 0) rfl, rfl, _, rfl, ite2 (fun h => absurd h (by decide)) (fun _ => ?_)⟩
    have z := q _ (Same.refl _)
    simp only [tstText, e_app] at z
    exact ⟨_, rfl, r, _, _, _, rfl, rfl, SqT.of gr, atI_nat (j := 0) rfl, _, _, rfl, rfl, line1000 (by (try simp only [strLen_append]); omega), _, rfl, r, _, _, _, rfl, rfl, SqT.of gr, atI_nat (j := 1) rfl, .inr ⟨_, rfl, _, _, rfl, rfl, line1000 (by (try simp only [strLen_append]); omega), z⟩⟩
  | not t => 
    obtain ⟨r, xs, rfl, gr, ds⟩ := td_tup td
    obtain ⟨v1, xs, rfl, d1, ds⟩ := tds_cons ds
    obtain ⟨v2, rfl, d2⟩ := tds1 ds
    cases d1
    have tl := tst_len (t := t) tn
    have t4 : t.depth + 1 ≤ 3 := t3
    have td5 : t.depth + 1 ≤ d + 1 := t0
    refine ⟨_, rfl, r, _, _, _, rfl, rfl, SqT.of gr, atI_nat (j := 0) rfl, rfl, _, rfl, ite2 (fun _ => ?_) (fun h => absurd (by decide) h)⟩
    exact ⟨_, rfl, r, _, _, _, rfl, rfl, SqT.of gr, atI_nat (j := 1) rfl, _, t, rfl, d2, tn, by omega, by omega, fun H' s' => ⟨_, _, rfl, rfl, line1000 (by omega), q H' s'⟩⟩
theorem ok_lt {f : Addr} {fd : FuncData} (F : Fun K "_law_test_text" "_law_test_text" s__law_test_text f fd) (z_str : mg "str" = none) (m : mg "_law_test_text" = some (.ref f)) (b : Binds K fd ["_law_test"] []) : ∀ d, FnOk P w K mg base CX0 (d + 1) f fd ["_law_test"] (spWT d)
  | 0 => ok_lt0 F z_str
  | d + 1 => ok_ltS F z_str m b (ok_lt F z_str m b d)
end
end G

set_option Elab.async false
set_option linter.all false
set_option maxRecDepth 100000
set_option maxHeartbeats 4000000
/-! k06: the blocks of a statement. -/
namespace G
open PySem PySem.Spec PyProof.Rows L2
def partsOf : Sta → List (List Sta)
  | .act _ => []
  | .cond _ y n => [y, n]
  | .rep _ b => [b]
def partD (b : List Sta) : PyData := .tuple (blkData b)
theorem sIx_two (a b : V) (ys : List V) : HT.sIx (a :: b :: ys).length 0 (some 2) = 2 := by
  rw [show HT.sIx (a :: b :: ys).length 0 (some 2) = min 2 (a :: b :: ys).length from HT.sIx_nat _ 0 2]
  simp only [List.length_cons]
  omega
theorem sIx2 (a b : V) (ys : List V) : ¬ HT.sIx (a :: b :: ys).length 0 (some 2) = 0 := by
  rw [sIx_two]
  decide
theorem cut2 (a b : V) (ys : List V) : cutV (a :: b :: ys) (some 2) none = ys := by
  unfold cutV
  rw [sIx_two, HT.sIx_none]
  show List.take ((a :: b :: ys).length - 2) ys = ys
  exact List.take_of_length_le (by simp only [List.length_cons]; omega)
theorem lc_parts {K : PySem.W.Frag} {H1 : Hp} {p D : Addr} {ys : List V} {bs : List (List Sta)} {x0 x1 x2 : Option V} {Qd : Hp → Prop} (gp : H1 p = some (.tup ys)) (tds : TDs H1 ys (bs.map partD)) (hl : bs.length ≤ 3) (nD : H1 D = none)
    (q : ∀ H', Same H1 H' → H' D = some (.lst ys) → Qd H') :
    ∃ W : Nat → Nat → Hp → Prop, (∃ m, W 0 m (upd H1 D (.lst []))) ∧ ∀ i m H, W i m H →
      ((Itt K p).stop i H ∧ Qd H) ∨ ((Itt K p).go i H ∧ ∃ Nx : Hp → Prop, (∀ H', Nx H' → ∃ m', m' < m ∧ W (i + 1) m' H') ∧ ∀ x H', (Itt K p).yld i H x H' → gName 2 x (wipe [x0, x1, x2] [2]) H' fun σ2 H2 => wipe σ2 [2] = wipe [x0, x1, x2] [2] ∧ tB (tCB (rIsi K) (tCons (tVar 2) (tCons (tC (V.ty "tuple")) tNil))) σ2 H2 fun b H3 =>
        if b = true then tVar 2 σ2 H3 fun y H4 => ∃ acc, H4 D = some (.lst acc) ∧ acc.length < sizeLine ∧ Nx (upd H4 D (.lst (acc ++ [y]))) else Nx H3) := by
  have ly : ys.length ≤ 3 := by rw [tds.len, List.length_map]; exact hl
  have neD : p ≠ D := fun z => by rw [z, nD] at gp; cases gp
  have c0 : Ch [D] H1 (upd H1 D (.lst [])) := (Ch.refl _ _).new nD
  refine lc_tup (xs := ys) (fun i H' => Ch [D] H1 H' ∧ H' D = some (.lst (ys.take i))) ⟨c0, upd_same⟩ (fun i H' _ h => SqT.of (h.1.tu _ _ gp)) ?_ ?_
  · rintro i x H' hx ⟨ch, gD⟩
    obtain ⟨dt, edt, tdv⟩ := (TDs.ch ch _ _ tds).at hx
    rw [List.getElem?_map] at edt
    obtain ⟨b, hb, rfl⟩ := Option.map_eq_some_iff.mp edt
    obtain ⟨r, zs, rfl, gr, _⟩ := td_tup tdv
    refine ⟨rfl, _, rfl, _, _, _, _, true, rfl, .ty "tuple", .base (.tup gr), kit_ty (by decide +kernel), _, rfl, iteT ⟨_, rfl, _, gD, small1000 (by rw [List.length_take]; omega), ch.put (by simp) gD (fun xs z => by cases z), ?_⟩⟩
    rw [upd_same, take_step hx]
  · rintro H' ⟨ch, gD⟩
    rw [List.take_of_length_le (Nat.le_refl _)] at gD
    exact q H' (ch.kp.fresh nD).toSame gD
theorem act_shape2 (a : Act) : ∃ (w : Str) (ds : List PyData), a.data = .tuple (.str w :: ds) ∧ decide (V.str w = V.str "if") = false ∧ decide (V.str w = V.str "repeat") = false := by
  cases a <;> exact ⟨_, _, rfl, by decide +kernel, by decide +kernel⟩
section
variable {P : Program} {w : World} {K : PySem.W.Frag} {mg : Str → Option Value} {base : Heap}
abbrev s__law_blocks : Stmt := top 20
abbrev n__law_blocks : List Str := ["_law_row_here", "_law_has_blocks", "_law_part"]
theorem sc__law_blocks : FnScope n__law_blocks ["_law_row_here"] (defScope s__law_blocks) := ⟨rfl, rfl, rfl, by decide +kernel, rfl, by decide +kernel, by decide +kernel⟩
def spLB : Sp := fun vs H Q _ => ∃ (v : V) (s : Sta), vs = [v] ∧ TD H v s.data ∧ ∀ (H' : Hp) (p : Addr) (xs : List V), Same H H' → H p = none → H' p = some (.lst xs) → TDs H' xs ((partsOf s).map partD) → Q (.ref p) H'
theorem ok_lb {f : Addr} {fd : FuncData} (F : Fun K "_law_blocks" "_law_blocks" s__law_blocks f fd) (T : Bi mg) (z_isi : mg "isinstance" = none) (z_tuple : mg "tuple" = none) : FnOk P w K mg base CX0 1 f fd ["_law_row_here"] spLB := by
  refine F.ok sc__law_blocks (fun vs H Q E ⟨v, s, ev, _⟩ => by rw [ev]; rfl) (fun cdv A outer s0 H vs Q E hr ⟨v, s, ev, td, q⟩ => ?_)
  subst ev
  refine ⟨_, (pss_cons (ps_set (i := 1) sc__law_blocks.nd rfl (.inl rfl) (pe_and (pe_callB (show CallR _ (.builtin "isinstance") (rIsi K) from call_isi) (by rfl) z_isi (by decide +kernel) (pa_cons (pv 0) (pa_cons (pe_bltn (v := .ty "tuple") (by rfl) z_tuple rfl rfl) pa_nil))) (pe_and (pe_cmpR op_gt (pe_callB call_len_seq (by rfl) T.z_len (by decide +kernel) (pa_cons (pv 0) pa_nil)) pe_int (nomark _)) (pe_one (pe_or (pe_cmpR op_eq (pe_ix ix_tup (pv 0) pe_int (fun _ _ => rfl)) pe_str (nomark _)) (pe_one (pe_cmpR op_eq (pe_ix ix_tup (pv 0) pe_int (fun _ _ => rfl)) pe_str (nomark _))))))))
      (pss_one (ps_ret (pe_ifExp (pt_truth (pv 1) (by intro _; rfl)) (pe_lc (own := [("_law_part", 2)]) (by rfl) sc__law_blocks.nd (pi_tup (pe_slice sl_tupA (pv 0) (po_some pe_int) po_none)) (blkOk_by (N := n__law_blocks) (sc := defScope s__law_blocks) (by decide +kernel)) (fun _ _ _ _ _ => (pg_name (i := 2) sc__law_blocks.nd rfl (.inl rfl))) (fun _ _ _ _ _ => pts_one (pt_val (pe_callB (show CallR _ (.builtin "isinstance") (rIsi K) from call_isi) (by rfl) z_isi (by decide +kernel) (pa_cons (pv 2) (pa_cons (pe_bltn (v := .ty "tuple") (by rfl) z_tuple rfl rfl) pa_nil))))) (fun _ _ _ _ _ => (pv 2))) (pe_lst pa_nil))))), ?_⟩
  cases s with
  | act a =>
    obtain ⟨wd, ds, ea, ef, ef2⟩ := act_shape2 a
    have td : TD H v a.data := td
    rw [ea] at td
    obtain ⟨r, ys, rfl, gr, dss⟩ := td_tup td
    obtain ⟨v1, ys, rfl, d1, dss⟩ := tds_cons dss
    cases d1
    refine ⟨_, rfl, _, _, _, _, true, rfl, .ty "tuple", .base (.tup gr), kit_ty (by decide +kernel), _, rfl, ?_⟩
    refine iteT ⟨_, rfl, _, _, rfl, .inr (SqT.of gr), _, _, rfl, rfl, _, rfl, ite2 (fun h => ?_) (fun h => ?_)⟩
    · refine ⟨_, rfl, r, _, _, _, rfl, rfl, SqT.of gr, atI_nat (j := 0) rfl, rfl, _, rfl, ?_⟩
      rw [ef]
      refine iteF ⟨_, rfl, r, _, _, _, rfl, rfl, SqT.of gr, atI_nat (j := 0) rfl, rfl, ?_⟩
      rw [ef2]
      exact ⟨_, rfl, _, rfl, iteF ⟨line1000 (Nat.zero_le _), fun p np => q _ p [] (Same.up np) np upd_same .nil⟩⟩
    · refine ⟨_, rfl, _, rfl, iteF ⟨line1000 (Nat.zero_le _), fun p np => q _ p [] (Same.up np) np upd_same .nil⟩⟩
  | cond t y n =>
    have td : TD H v (.tuple [.str "if", t.data, .tuple (blkData y), .tuple (blkData n)]) := td
    obtain ⟨r, ys0, rfl, gr, e0⟩ := td_tup td
    obtain ⟨v1, ys1, rfl, d1, e1⟩ := tds_cons e0
    cases d1
    obtain ⟨v2, ys2, rfl, d2, e2⟩ := tds_cons e1
    have l2 := e2.len
    have l2 : ys2.length = 2 := l2
    refine ⟨_, rfl, _, _, _, _, true, rfl, .ty "tuple", .base (.tup gr), kit_ty (by decide +kernel), _, rfl, ?_⟩
    refine iteT ⟨_, rfl, _, _, rfl, .inr (SqT.of gr), _, _, rfl, rfl, _, rfl, ?_⟩
    rw [if_pos (decide_eq_true (by simp only [List.length_cons]; omega))]
    refine ⟨_, rfl, r, _, _, _, rfl, rfl, SqT.of gr, atI_nat (j := 0) rfl, rfl, _, rfl, iteT ?_⟩
    refine ⟨_, rfl, _, rfl, ?_⟩
    refine iteT ?_
    have ec : cutV (V.str (Str.ofString "if") :: v2 :: ys2) (some 2) none = ys2 := cut2 _ _ _
    refine ⟨_, rfl, _, rfl, r, _, rfl, SqT.of gr, fun h => ?_, fun _ p np => ?_⟩
    · exact absurd h.1 (sIx2 _ _ _)
    · rw [ec]
      have s1 := Same.up (o := HO.tup ys2) np
      refine ⟨p, rfl, ⟨_, SqT.of upd_same⟩, fun D nD => lc_parts (bs := [y, n]) upd_same (TDs.ch (Ch.same (S := []) s1) _ _ e2) (Nat.le_of_ble_eq_true rfl) nD fun H' s' gD => q H' D ys2 (Same.trans s1 s') (s1.free nD) gD (TDs.ch (Ch.same (S := []) (Same.trans s1 s')) _ _ e2)⟩
  | rep k b =>
    have td : TD H v (.tuple [.str "repeat", .int k, .tuple (blkData b)]) := td
    obtain ⟨r, ys0, rfl, gr, e0⟩ := td_tup td
    obtain ⟨v1, ys1, rfl, d1, e1⟩ := tds_cons e0
    cases d1
    obtain ⟨v2, ys2, rfl, d2, e2⟩ := tds_cons e1
    have l2 := e2.len
    have l2 : ys2.length = 1 := l2
    refine ⟨_, rfl, _, _, _, _, true, rfl, .ty "tuple", .base (.tup gr), kit_ty (by decide +kernel), _, rfl, ?_⟩
    refine iteT ⟨_, rfl, _, _, rfl, .inr (SqT.of gr), _, _, rfl, rfl, _, rfl, ?_⟩
    rw [if_pos (decide_eq_true (by simp only [List.length_cons]; omega))]
    refine ⟨_, rfl, r, _, _, _, rfl, rfl, SqT.of gr, atI_nat (j := 0) rfl, rfl, _, rfl, iteF ⟨_, rfl, r, _, _, _, rfl, rfl, SqT.of gr, atI_nat (j := 0) rfl, rfl, ?_⟩⟩
    refine ⟨_, rfl, _, rfl, ?_⟩
    refine iteT ?_
    have ec : cutV (V.str (Str.ofString "repeat") :: v2 :: ys2) (some 2) none = ys2 := cut2 _ _ _
    refine ⟨_, rfl, _, rfl, r, _, rfl, SqT.of gr, fun h => ?_, fun _ p np => ?_⟩
    · exact absurd h.1 (sIx2 _ _ _)
    · rw [ec]
      have s1 := Same.up (o := HO.tup ys2) np
      refine ⟨p, rfl, ⟨_, SqT.of upd_same⟩, fun D nD => lc_parts (bs := [b]) upd_same (TDs.ch (Ch.same (S := []) s1) _ _ e2) (Nat.le_of_ble_eq_true rfl) nD fun H' s' gD => q H' D ys2 (Same.trans s1 s') (s1.free nD) gD (TDs.ch (Ch.same (S := []) (Same.trans s1 s')) _ _ e2)⟩
end
end G

set_option Elab.async false
set_option linter.all false
set_option maxRecDepth 100000
set_option maxHeartbeats 4000000
/-! k06: the law's line. Written by mkU15.py. -/
namespace G
open PySem PySem.Spec PyProof.Rows L2
theorem sIx_one (a b : V) (ys : List V) : HT.sIx (a :: b :: ys).length 0 (some 1) = 1 := by
  rw [show HT.sIx (a :: b :: ys).length 0 (some 1) = min 1 (a :: b :: ys).length from HT.sIx_nat _ 0 1]
  simp only [List.length_cons]
  omega
theorem sIx1 (a b : V) (ys : List V) : ¬ HT.sIx (a :: b :: ys).length 0 (some 1) = 0 := by
  rw [sIx_one]
  decide
theorem cut1 (a b : V) (ys : List V) : cutV (a :: b :: ys) (some 1) none = b :: ys := by
  unfold cutV
  rw [sIx_one, HT.sIx_none]
  show List.take ((a :: b :: ys).length - 1) (b :: ys) = b :: ys
  exact List.take_of_length_le (by simp only [List.length_cons]; omega)
theorem Txt_join2 (s a b : Str) : Txt.join s [a, b] = a ++ s ++ b := by
  rw [TL.join_eq]
  rfl
theorem Txt_join3 (s a b c : Str) : Txt.join s [a, b, c] = a ++ s ++ (b ++ s ++ c) := by
  rw [TL.join_eq]
  rfl
theorem S_assoc (a b c : Str) : a ++ (b ++ c) = a ++ b ++ c := by
  show Str.mk (a.cps ++ (b.cps ++ c.cps)) = Str.mk (a.cps ++ b.cps ++ c.cps)
  rw [Array.append_assoc]
theorem wish_sp : Str.ofString "wish " = Str.ofString "wish" ++ Str.ofString " " := by decide +kernel
theorem rep_sp : Str.ofString "repeat " = Str.ofString "repeat" ++ Str.ofString " " := by decide +kernel
theorem showy_of {d : PyData} {p n : Nat} (h : ShowyP d p n) (hp : p ≤ 100) (hn : n ≤ 1000000) : Showy d 1000000 := ⟨h.s, h.h, h.o, Nat.le_trans h.p hp, Nat.le_trans h.b hn⟩
theorem sta_shape {s : Sta} {d : Nat} (h : StaOk d s) (hd : d ≤ 5) (hz : s.size ≤ 100) : ∃ (w : Str) (e : PyData) (ds : List PyData), s.data = .tuple (.str w :: e :: ds) ∧ (∀ x ∈ e :: ds, Showy x 1000000) ∧ ds.length ≤ 2 := by
  have sn : ∀ {x : Str}, Nm x → Showy (.str x) 1000000 := fun h => showy_of (showy_nm h 0) (by decide) (by decide)
  cases s with
  | act a =>
    have h : a.nm := by cases d <;> exact h
    cases a with
    | ask t => exact ⟨_, _, _, rfl, by simpa using showy_of (showy_tst' h) (by decide) (by decide), by decide⟩
    | make x => exact ⟨_, _, _, rfl, by simpa using sn h, by decide⟩
    | keep x => exact ⟨_, _, _, rfl, by simpa using sn h, by decide⟩
    | drop x => exact ⟨_, _, _, rfl, by simpa using sn h, by decide⟩
    | say x => exact ⟨_, _, _, rfl, by simpa using sn h, by decide⟩
    | wish x y => exact ⟨_, _, _, rfl, by simpa using ⟨sn h.1, sn h.2⟩, Nat.le_of_ble_eq_true rfl⟩
    | name x y => exact ⟨_, _, _, rfl, by simpa using ⟨sn h.1, sn h.2⟩, Nat.le_of_ble_eq_true rfl⟩
    | cut x y => exact ⟨_, _, _, rfl, by simpa using ⟨sn h.1, sn h.2⟩, Nat.le_of_ble_eq_true rfl⟩
    | hold x y z => exact ⟨_, _, _, rfl, by simpa using ⟨sn h.1, sn h.2.1, sn h.2.2⟩, Nat.le_of_ble_eq_true rfl⟩
    | weak x y z => exact ⟨_, _, _, rfl, by simpa using ⟨sn h.1, sn h.2.1, sn h.2.2⟩, Nat.le_of_ble_eq_true rfl⟩
    | take x y z => exact ⟨_, _, _, rfl, by simpa using ⟨sn h.1, sn h.2.1, sn h.2.2⟩, Nat.le_of_ble_eq_true rfl⟩
  | cond t y n =>
    cases d with
    | zero => exact h.elim
    | succ d =>
      have hz : 1 + (sizeB y + sizeB n) ≤ 100 := hz
      have h1 := showy_of (showy_tst' h.1) (by decide) (by decide)
      have h2 := showy_of (showy_blk d y h.2.1).tup (by omega) (by omega)
      have h3 := showy_of (showy_blk d n h.2.2).tup (by omega) (by omega)
      exact ⟨_, _, _, rfl, by simpa using ⟨h1, h2, h3⟩, Nat.le_of_ble_eq_true rfl⟩
  | rep k b =>
    cases d with
    | zero => exact h.elim
    | succ d =>
      have hz : 1 + sizeB b ≤ 100 := hz
      have h1 := showy_of (showy_int h.1 0) (by decide) (by decide)
      have h2 := showy_of (showy_blk d b h.2).tup (by omega) (by omega)
      exact ⟨_, _, _, rfl, by simpa using ⟨h1, h2⟩, Nat.le_of_ble_eq_true rfl⟩
/-- the items' texts -/
theorem lc_strs {K : PySem.W.Frag} {H1 : Hp} {p D : Addr} {ys : List V} {ds : List PyData} {x0 x1 x2 x3 : Option V} {Qd : Hp → Prop} (gp : H1 p = some (.tup ys)) (tds : TDs H1 ys ds) (hl : ds.length ≤ 3) (hs : ∀ x ∈ ds, Showy x 1000000) (nD : H1 D = none)
    (q : ∀ H', Same H1 H' → H' D = some (.lst (ds.map fun d => V.str (strD d))) → Qd H') :
    ∃ W : Nat → Nat → Hp → Prop, (∃ m, W 0 m (upd H1 D (.lst []))) ∧ ∀ i m H, W i m H →
      ((Itt K p).stop i H ∧ Qd H) ∨ ((Itt K p).go i H ∧ ∃ Nx : Hp → Prop, (∀ H', Nx H' → ∃ m', m' < m ∧ W (i + 1) m' H') ∧ ∀ x H', (Itt K p).yld i H x H' → gName 3 x (wipe [x0, x1, x2, x3] [3]) H' fun σ2 H2 => wipe σ2 [3] = wipe [x0, x1, x2, x3] [3] ∧ tYes σ2 H2 fun b H3 =>
        if b = true then tCB (rStrD K) (tCons (tVar 3) tNil) σ2 H3 fun y H4 => ∃ acc, H4 D = some (.lst acc) ∧ acc.length < sizeLine ∧ Nx (upd H4 D (.lst (acc ++ [y]))) else Nx H3) := by
  have ly : ys.length ≤ 3 := by rw [tds.len]; exact hl
  have neD : p ≠ D := fun z => by rw [z, nD] at gp; cases gp
  have c0 : Ch [D] H1 (upd H1 D (.lst [])) := (Ch.refl _ _).new nD
  refine lc_tup (xs := ys) (fun i H' => Ch [D] H1 H' ∧ H' D = some (.lst ((ds.map fun d => V.str (strD d)).take i))) ⟨c0, upd_same⟩ (fun i H' _ h => SqT.of (h.1.tu _ _ gp)) ?_ ?_
  · rintro i x H' hx ⟨ch, gD⟩
    obtain ⟨dt, edt, tdv⟩ := (TDs.ch ch _ _ tds).at hx
    refine ⟨rfl, _, rfl, _, _, rfl, tdv.dp, hs _ (List.mem_of_getElem? edt), _, gD, small1000 (by rw [List.length_take, List.length_map]; omega), ch.put (by simp) gD (fun xs z => by cases z), ?_⟩
    rw [upd_same, take_step (x := V.str (strD dt)) (by rw [List.getElem?_map, edt]; rfl)]
  · rintro H' ⟨ch, gD⟩
    rw [List.take_of_length_le (by rw [List.length_map, tds.len]; exact Nat.le_refl _)] at gD
    exact q H' (ch.kp.fresh nD).toSame gD
section
variable {P : Program} {w : World} {K : PySem.W.Frag} {mg : Str → Option Value} {base : Heap}
abbrev s__law_line : Stmt := top 22
abbrev n__law_line : List Str := ["_law_row_here", "_law_kind", "_law_rest", "_law_item"]
theorem sc__law_line : FnScope n__law_line ["_law_row_here"] (defScope s__law_line) := ⟨rfl, rfl, rfl, by decide +kernel, rfl, by decide +kernel, by decide +kernel⟩
def spLL : Sp := fun vs H Q _ => ∃ (v : V) (s : Sta) (d : Nat), vs = [v] ∧ TD H v s.data ∧ StaOk d s ∧ d ≤ 5 ∧ s.size ≤ 100 ∧ ∀ H', Same H H' → Q (.str (lineOf s)) H'
theorem ok_ll {f fW : Addr} {fd dW : FuncData} (F : Fun K "_law_line" "_law_line" s__law_line f fd) (z_str : mg "str" = none) (mW : mg "_law_test_text" = some (.ref fW)) (kW : PySem.W.keepIn K (.ref fW) = true) (bW : Binds K dW ["_law_test"] []) (GW : FnOk P w K mg base CX0 4 fW dW ["_law_test"] (spWT 3)) : FnOkG P w K mg base 5 f fd ["_law_row_here"] spLL := by
  refine G.Fun.okG F sc__law_line (fun vs H Q E ⟨v, s, d, ev, _⟩ => by rw [ev]; rfl) (fun cdv A outer s0 H vs Q E gA hr ⟨v, s, d, ev, td, ok, hd, hz, q⟩ => ?_)
  subst ev
  have hu104 : (A.deeper (envOfC "_law_line" (defScope s__law_line) s0.heap.objs.size f cdv)).units + 104 < cLine := by have := hr.un; omega
  have gu : (A.deeper (envOfC "_law_line" (defScope s__law_line) s0.heap.objs.size f cdv)).guards = some [] := gA
  refine ⟨_, (pss_cons (ps_par (i := 1) (j := 2) (by rfl) sc__law_line.nd rfl rfl (by decide) rfl rfl (pa_cons (pe_ix ix_tup (pv 0) pe_int (fun _ _ => rfl)) (pa_cons (pe_lc (own := [("_law_item", 3)]) (by rfl) sc__law_line.nd (pi_tup (pe_slice sl_tupA (pv 0) (po_some pe_int) po_none)) (blkOk_by (N := n__law_line) (sc := defScope s__law_line) (by decide +kernel)) (fun _ _ _ _ _ => (pg_name (i := 3) sc__law_line.nd rfl (.inl rfl))) (fun _ _ _ _ _ => pts_nil) (fun _ _ _ _ _ => (pe_callTy (show CallR _ (.type "str") (rStrD K) from call_strD gu hu104) (by rfl) z_str (by decide +kernel) (pa_cons (pv 3) pa_nil)))) pa_nil)) (by rfl))
      (pss_cons (ps_if (PW.pt (pw_or (pt_cmpR op_eq (pv 1) pe_str (nomark _)) (pw_or1 (pt_cmpR op_eq (pv 1) pe_str (nomark _)))))
      (pss_one (ps_ret (pe_op op_add_str (pe_op op_add_str (pv 1) pe_str) (pe_call GW hr (by rfl) mW kW bW .nil pass0 (pa_cons (pe_ix ix_tup (pv 0) pe_int (fun _ _ => rfl)) pa_nil)))))
      pss_nil)
      (pss_cons (ps_if (pt_cmpR op_eq (pv 1) pe_str (nomark _))
      (pss_one (ps_ret (pe_op op_add_str pe_str (pe_ix ix_list (pv 2) pe_int (fun _ _ => rfl)))))
      pss_nil)
      (pss_cons (ps_if (pt_cmpR op_eq (pv 1) pe_str (nomark _))
      (pss_one (ps_ret (pe_op op_add_str (pe_op op_add_str (pe_ix ix_list (pv 2) pe_int (fun _ _ => rfl)) pe_str) (pe_ix ix_list (pv 2) pe_int (fun _ _ => rfl)))))
      pss_nil)
      (pss_cons (ps_if (pt_cmpR op_eq (pv 1) pe_str (nomark _))
      (pss_one (ps_ret (pe_op op_add_str (pe_op op_add_str (pe_op op_add_str (pe_op op_add_str (pe_ix ix_list (pv 2) pe_int (fun _ _ => rfl)) pe_str) (pe_ix ix_list (pv 2) pe_int (fun _ _ => rfl))) pe_str) (pe_ix ix_list (pv 2) pe_int (fun _ _ => rfl)))))
      pss_nil)
      (pss_cons (ps_if (PW.pt (pw_or (pt_cmpR op_eq (pv 1) pe_str (nomark _)) (pw_or1 (pt_cmpR op_eq (pv 1) pe_str (nomark _)))))
      (pss_one (ps_ret (pe_op op_add_str (pe_op op_add_str (pe_op op_add_str (pe_op op_add_str (pe_ix ix_list (pv 2) pe_int (fun _ _ => rfl)) pe_str) (pe_ix ix_list (pv 2) pe_int (fun _ _ => rfl))) (pe_ifExp (pt_cmpR op_eq (pv 1) pe_str (nomark _)) pe_str pe_str)) (pe_ix ix_list (pv 2) pe_int (fun _ _ => rfl)))))
      pss_nil)
      (pss_one (ps_ret (pe_ifExp (pt_cmpR op_eq (pv 1) pe_str (nomark _)) (pe_op op_add_str (pe_op op_add_str (pe_op op_add_str pe_str (pe_ix ix_list (pv 2) pe_int (fun _ _ => rfl))) pe_str) (pe_ix ix_list (pv 2) pe_int (fun _ _ => rfl))) (pe_join pe_str (pe_op op_cat (pe_lst (pa_cons (pv 1) pa_nil)) (pv 2)))))))))))), ?_⟩
  obtain ⟨wd, e, ds, es, hsh, hl⟩ := sta_shape ok hd hz
  rw [es] at td
  obtain ⟨r, xs, rfl, gr, d0⟩ := td_tup td
  obtain ⟨v1, ys, rfl, d1, d2⟩ := tds_cons d0
  cases d1
  obtain ⟨v2, ys, rfl, d3, d4⟩ := tds_cons d2
  refine ⟨_, rfl, r, _, _, _, rfl, rfl, SqT.of gr, atI_nat (j := 0) rfl, _, rfl, _, rfl, r, _, rfl, SqT.of gr, fun h => absurd h.1 (sIx1 _ _ _), fun _ p np => ?_⟩
  rw [cut1]
  have sp := Same.up (o := HO.tup (v2 :: ys)) np
  refine ⟨p, rfl, ⟨_, SqT.of upd_same⟩, fun D nD => lc_strs upd_same (TDs.ch (Ch.same (S := []) sp) _ _ d2) (by simp only [List.length_cons]; omega) hsh nD fun H2 s2' gD => ?_⟩
  have s2 := Same.trans sp s2'
  refine ⟨_, _, rfl, ?_⟩
  have gr2 := s2 _ _ gr
  have d22 := TDs.ch (Ch.same (S := []) s2) _ _ d2
  have q0 := e_len
  have z0 : (Str.ofString " ").length = 1 := rfl
  have z1 : (Str.ofString " = ").length = 3 := rfl
  have z2 : (Str.ofString " ~ ").length = 3 := rfl
  have z3 : (Str.ofString ".").length = 1 := rfl
  have z4 : (Str.ofString "cut ").length = 4 := rfl
  have z5 : (Str.ofString "wish ").length = 5 := rfl
  have z6 : (Str.ofString "repeat ").length = 7 := rfl
  have z7 : (Str.ofString "make").length = 4 := rfl
  have z8 : (Str.ofString "keep").length = 4 := rfl
  have z9 : (Str.ofString "drop").length = 4 := rfl
  have z10 : (Str.ofString "say").length = 3 := rfl
  have z11 : (Str.ofString "name").length = 4 := rfl
  have z12 : (Str.ofString "take").length = 4 := rfl
  have z13 : (Str.ofString "hold").length = 4 := rfl
  have z14 : (Str.ofString "weak").length = 4 := rfl
  have z15 : (Str.ofString "cut").length = 3 := rfl
  have z16 : (Str.ofString "wish").length = 4 := rfl
  have z17 : (Str.ofString "ask").length = 3 := rfl
  have z18 : (Str.ofString "if").length = 2 := rfl
  have z19 : (Str.ofString "repeat").length = 6 := rfl
  cases s with
  | act b =>
    have ok : b.nm := by cases d <;> exact ok
    cases b with
    | make x =>
      have es : PyData.tuple [.str "make", .str x] = .tuple (.str wd :: e :: ds) := es
      cases es
      have ok : Nm x := ok
      have l1 := ok.1
      have gD : H2 D = some (.lst [V.str x]) := gD
      refine ⟨_, rfl, rfl, _, rfl, ite2 (fun h => absurd h (by decide)) (fun _ => ?_)⟩
      refine ⟨_, rfl, rfl, _, rfl, ite2 (fun h => absurd h (by decide)) (fun _ => ?_)⟩
      refine ⟨_, rfl, rfl, _, rfl, ite2 (fun h => absurd h (by decide)) (fun _ => ?_)⟩
      refine ⟨_, rfl, rfl, _, rfl, ite2 (fun h => absurd h (by decide)) (fun _ => ?_)⟩
      refine ⟨_, rfl, rfl, _, rfl, ite2 (fun h => absurd h (by decide)) (fun _ => ?_)⟩
      refine ⟨_, rfl, rfl, _, rfl, ite2 (fun h => absurd h (by decide)) (fun _ => ?_)⟩
      refine ⟨_, rfl, rfl, _, rfl, ite2 (fun h => absurd h (by decide)) (fun _ => ?_)⟩
      refine ⟨_, rfl, rfl, _, rfl, ite2 (fun h => absurd h (by decide)) (fun _ => ?_)⟩
      have ez : lineOf (.act (.make x)) = Txt.join (Str.ofString " ") [Str.ofString "make", x] := by
        rw [Txt_join2]
        simp only [lineOf, e_app]
      refine ⟨⟨_, rfl⟩, _, rfl, line1000 (Nat.le_of_ble_eq_true rfl), fun L1 n1 => ⟨_, rfl, L1, D, _, _, rfl, rfl, upd_same, (Same.up n1) _ _ gD, line1000 (Nat.le_of_ble_eq_true rfl), fun L3 n3 => ⟨Str.ofString " ", L3, [Str.ofString "make", x], rfl, rfl, .inl (SqL.of upd_same), (by show (Str.ofString "make").length + (x.length + 0) + 2 * (Str.ofString " ").length ≤ 16777216; omega), ?_⟩⟩⟩
      show Q (.str (Txt.join (Str.ofString " ") [Str.ofString "make", x])) _
      rw [← ez]
      exact q _ (Same.trans s2 (Same.trans (Same.up n1) (Same.up n3)))
    | keep x =>
      have es : PyData.tuple [.str "keep", .str x] = .tuple (.str wd :: e :: ds) := es
      cases es
      have ok : Nm x := ok
      have l1 := ok.1
      have gD : H2 D = some (.lst [V.str x]) := gD
      refine ⟨_, rfl, rfl, _, rfl, ite2 (fun h => absurd h (by decide)) (fun _ => ?_)⟩
      refine ⟨_, rfl, rfl, _, rfl, ite2 (fun h => absurd h (by decide)) (fun _ => ?_)⟩
      refine ⟨_, rfl, rfl, _, rfl, ite2 (fun h => absurd h (by decide)) (fun _ => ?_)⟩
      refine ⟨_, rfl, rfl, _, rfl, ite2 (fun h => absurd h (by decide)) (fun _ => ?_)⟩
      refine ⟨_, rfl, rfl, _, rfl, ite2 (fun h => absurd h (by decide)) (fun _ => ?_)⟩
      refine ⟨_, rfl, rfl, _, rfl, ite2 (fun h => absurd h (by decide)) (fun _ => ?_)⟩
      refine ⟨_, rfl, rfl, _, rfl, ite2 (fun h => absurd h (by decide)) (fun _ => ?_)⟩
      refine ⟨_, rfl, rfl, _, rfl, ite2 (fun h => absurd h (by decide)) (fun _ => ?_)⟩
      have ez : lineOf (.act (.keep x)) = Txt.join (Str.ofString " ") [Str.ofString "keep", x] := by
        rw [Txt_join2]
        simp only [lineOf, e_app]
      refine ⟨⟨_, rfl⟩, _, rfl, line1000 (Nat.le_of_ble_eq_true rfl), fun L1 n1 => ⟨_, rfl, L1, D, _, _, rfl, rfl, upd_same, (Same.up n1) _ _ gD, line1000 (Nat.le_of_ble_eq_true rfl), fun L3 n3 => ⟨Str.ofString " ", L3, [Str.ofString "keep", x], rfl, rfl, .inl (SqL.of upd_same), (by show (Str.ofString "keep").length + (x.length + 0) + 2 * (Str.ofString " ").length ≤ 16777216; omega), ?_⟩⟩⟩
      show Q (.str (Txt.join (Str.ofString " ") [Str.ofString "keep", x])) _
      rw [← ez]
      exact q _ (Same.trans s2 (Same.trans (Same.up n1) (Same.up n3)))
    | drop x =>
      have es : PyData.tuple [.str "drop", .str x] = .tuple (.str wd :: e :: ds) := es
      cases es
      have ok : Nm x := ok
      have l1 := ok.1
      have gD : H2 D = some (.lst [V.str x]) := gD
      refine ⟨_, rfl, rfl, _, rfl, ite2 (fun h => absurd h (by decide)) (fun _ => ?_)⟩
      refine ⟨_, rfl, rfl, _, rfl, ite2 (fun h => absurd h (by decide)) (fun _ => ?_)⟩
      refine ⟨_, rfl, rfl, _, rfl, ite2 (fun h => absurd h (by decide)) (fun _ => ?_)⟩
      refine ⟨_, rfl, rfl, _, rfl, ite2 (fun h => absurd h (by decide)) (fun _ => ?_)⟩
      refine ⟨_, rfl, rfl, _, rfl, ite2 (fun h => absurd h (by decide)) (fun _ => ?_)⟩
      refine ⟨_, rfl, rfl, _, rfl, ite2 (fun h => absurd h (by decide)) (fun _ => ?_)⟩
      refine ⟨_, rfl, rfl, _, rfl, ite2 (fun h => absurd h (by decide)) (fun _ => ?_)⟩
      refine ⟨_, rfl, rfl, _, rfl, ite2 (fun h => absurd h (by decide)) (fun _ => ?_)⟩
      have ez : lineOf (.act (.drop x)) = Txt.join (Str.ofString " ") [Str.ofString "drop", x] := by
        rw [Txt_join2]
        simp only [lineOf, e_app]
      refine ⟨⟨_, rfl⟩, _, rfl, line1000 (Nat.le_of_ble_eq_true rfl), fun L1 n1 => ⟨_, rfl, L1, D, _, _, rfl, rfl, upd_same, (Same.up n1) _ _ gD, line1000 (Nat.le_of_ble_eq_true rfl), fun L3 n3 => ⟨Str.ofString " ", L3, [Str.ofString "drop", x], rfl, rfl, .inl (SqL.of upd_same), (by show (Str.ofString "drop").length + (x.length + 0) + 2 * (Str.ofString " ").length ≤ 16777216; omega), ?_⟩⟩⟩
      show Q (.str (Txt.join (Str.ofString " ") [Str.ofString "drop", x])) _
      rw [← ez]
      exact q _ (Same.trans s2 (Same.trans (Same.up n1) (Same.up n3)))
    | say x =>
      have es : PyData.tuple [.str "say", .str x] = .tuple (.str wd :: e :: ds) := es
      cases es
      have ok : Nm x := ok
      have l1 := ok.1
      have gD : H2 D = some (.lst [V.str x]) := gD
      refine ⟨_, rfl, rfl, _, rfl, ite2 (fun h => absurd h (by decide)) (fun _ => ?_)⟩
      refine ⟨_, rfl, rfl, _, rfl, ite2 (fun h => absurd h (by decide)) (fun _ => ?_)⟩
      refine ⟨_, rfl, rfl, _, rfl, ite2 (fun h => absurd h (by decide)) (fun _ => ?_)⟩
      refine ⟨_, rfl, rfl, _, rfl, ite2 (fun h => absurd h (by decide)) (fun _ => ?_)⟩
      refine ⟨_, rfl, rfl, _, rfl, ite2 (fun h => absurd h (by decide)) (fun _ => ?_)⟩
      refine ⟨_, rfl, rfl, _, rfl, ite2 (fun h => absurd h (by decide)) (fun _ => ?_)⟩
      refine ⟨_, rfl, rfl, _, rfl, ite2 (fun h => absurd h (by decide)) (fun _ => ?_)⟩
      refine ⟨_, rfl, rfl, _, rfl, ite2 (fun h => absurd h (by decide)) (fun _ => ?_)⟩
      have ez : lineOf (.act (.say x)) = Txt.join (Str.ofString " ") [Str.ofString "say", x] := by
        rw [Txt_join2]
        simp only [lineOf, e_app]
      refine ⟨⟨_, rfl⟩, _, rfl, line1000 (Nat.le_of_ble_eq_true rfl), fun L1 n1 => ⟨_, rfl, L1, D, _, _, rfl, rfl, upd_same, (Same.up n1) _ _ gD, line1000 (Nat.le_of_ble_eq_true rfl), fun L3 n3 => ⟨Str.ofString " ", L3, [Str.ofString "say", x], rfl, rfl, .inl (SqL.of upd_same), (by show (Str.ofString "say").length + (x.length + 0) + 2 * (Str.ofString " ").length ≤ 16777216; omega), ?_⟩⟩⟩
      show Q (.str (Txt.join (Str.ofString " ") [Str.ofString "say", x])) _
      rw [← ez]
      exact q _ (Same.trans s2 (Same.trans (Same.up n1) (Same.up n3)))
    | name x y =>
      have es : PyData.tuple [.str "name", .str x, .str y] = .tuple (.str wd :: e :: ds) := es
      cases es
      have ok : Nm x ∧ Nm y := ok
      have l1 := ok.1.1
      have l2 := ok.2.1
      have gD : H2 D = some (.lst [V.str x, V.str y]) := gD
      refine ⟨_, rfl, rfl, _, rfl, ite2 (fun h => absurd h (by decide)) (fun _ => ?_)⟩
      refine ⟨_, rfl, rfl, _, rfl, ite2 (fun h => absurd h (by decide)) (fun _ => ?_)⟩
      refine ⟨_, rfl, rfl, _, rfl, ite2 (fun h => absurd h (by decide)) (fun _ => ?_)⟩
      refine ⟨_, rfl, rfl, _, rfl, ite2 (fun _ => ?_) (fun h => absurd (by decide) h)⟩
      have z := q _ s2
      simp only [lineOf, e_app] at z
      exact ⟨_, rfl, D, _, _, _, rfl, rfl, SqL.of gD, atI_nat (j := 0) rfl, _, _, rfl, rfl, line1000 (by (try simp only [strLen_append]); omega), _, rfl, D, _, _, _, rfl, rfl, SqL.of gD, atI_nat (j := 1) rfl, _, _, rfl, rfl, line1000 (by (try simp only [strLen_append]); omega), z⟩
    | take z x f =>
      have es : PyData.tuple [.str "take", .str z, .str x, .str f] = .tuple (.str wd :: e :: ds) := es
      cases es
      have ok : Nm z ∧ Nm x ∧ Nm f := ok
      have l1 := ok.1.1
      have l2 := ok.2.1.1
      have l3 := ok.2.2.1
      have gD : H2 D = some (.lst [V.str z, V.str x, V.str f]) := gD
      refine ⟨_, rfl, rfl, _, rfl, ite2 (fun h => absurd h (by decide)) (fun _ => ?_)⟩
      refine ⟨_, rfl, rfl, _, rfl, ite2 (fun h => absurd h (by decide)) (fun _ => ?_)⟩
      refine ⟨_, rfl, rfl, _, rfl, ite2 (fun h => absurd h (by decide)) (fun _ => ?_)⟩
      refine ⟨_, rfl, rfl, _, rfl, ite2 (fun h => absurd h (by decide)) (fun _ => ?_)⟩
      refine ⟨_, rfl, rfl, _, rfl, ite2 (fun _ => ?_) (fun h => absurd (by decide) h)⟩
      have z := q _ s2
      simp only [lineOf, e_app] at z
      exact ⟨_, rfl, D, _, _, _, rfl, rfl, SqL.of gD, atI_nat (j := 0) rfl, _, _, rfl, rfl, line1000 (by (try simp only [strLen_append]); omega), _, rfl, D, _, _, _, rfl, rfl, SqL.of gD, atI_nat (j := 1) rfl, _, _, rfl, rfl, line1000 (by (try simp only [strLen_append]); omega), _, _, rfl, rfl, line1000 (by (try simp only [strLen_append]); omega), _, rfl, D, _, _, _, rfl, rfl, SqL.of gD, atI_nat (j := 2) rfl, _, _, rfl, rfl, line1000 (by (try simp only [strLen_append]); omega), z⟩
    | hold x f y =>
      have es : PyData.tuple [.str "hold", .str x, .str f, .str y] = .tuple (.str wd :: e :: ds) := es
      cases es
      have ok : Nm x ∧ Nm f ∧ Nm y := ok
      have l1 := ok.1.1
      have l2 := ok.2.1.1
      have l3 := ok.2.2.1
      have gD : H2 D = some (.lst [V.str x, V.str f, V.str y]) := gD
      refine ⟨_, rfl, rfl, _, rfl, ite2 (fun h => absurd h (by decide)) (fun _ => ?_)⟩
      refine ⟨_, rfl, rfl, _, rfl, ite2 (fun h => absurd h (by decide)) (fun _ => ?_)⟩
      refine ⟨_, rfl, rfl, _, rfl, ite2 (fun h => absurd h (by decide)) (fun _ => ?_)⟩
      refine ⟨_, rfl, rfl, _, rfl, ite2 (fun h => absurd h (by decide)) (fun _ => ?_)⟩
      refine ⟨_, rfl, rfl, _, rfl, ite2 (fun h => absurd h (by decide)) (fun _ => ?_)⟩
      refine ⟨_, rfl, rfl, _, rfl, ite2 (fun _ => ?_) (fun h => absurd (by decide) h)⟩
      refine iteT ?_
      have z := q _ s2
      simp only [lineOf, e_app] at z
      exact ⟨_, rfl, D, _, _, _, rfl, rfl, SqL.of gD, atI_nat (j := 0) rfl, _, _, rfl, rfl, line1000 (by (try simp only [strLen_append]); omega), _, rfl, D, _, _, _, rfl, rfl, SqL.of gD, atI_nat (j := 1) rfl, _, _, rfl, rfl, line1000 (by (try simp only [strLen_append]); omega), _, rfl, rfl, _, rfl, ite2 (fun _ => ⟨_, _, rfl, rfl, line1000 (by (try simp only [strLen_append]); omega), _, rfl, D, _, _, _, rfl, rfl, SqL.of gD, atI_nat (j := 2) rfl, _, _, rfl, rfl, line1000 (by (try simp only [strLen_append]); omega), z⟩) (fun h => absurd (by decide) h)⟩
    | weak x f y =>
      have es : PyData.tuple [.str "weak", .str x, .str f, .str y] = .tuple (.str wd :: e :: ds) := es
      cases es
      have ok : Nm x ∧ Nm f ∧ Nm y := ok
      have l1 := ok.1.1
      have l2 := ok.2.1.1
      have l3 := ok.2.2.1
      have gD : H2 D = some (.lst [V.str x, V.str f, V.str y]) := gD
      refine ⟨_, rfl, rfl, _, rfl, ite2 (fun h => absurd h (by decide)) (fun _ => ?_)⟩
      refine ⟨_, rfl, rfl, _, rfl, ite2 (fun h => absurd h (by decide)) (fun _ => ?_)⟩
      refine ⟨_, rfl, rfl, _, rfl, ite2 (fun h => absurd h (by decide)) (fun _ => ?_)⟩
      refine ⟨_, rfl, rfl, _, rfl, ite2 (fun h => absurd h (by decide)) (fun _ => ?_)⟩
      refine ⟨_, rfl, rfl, _, rfl, ite2 (fun h => absurd h (by decide)) (fun _ => ?_)⟩
      refine ⟨_, rfl, rfl, _, rfl, ite2 (fun h => absurd h (by decide)) (fun _ => ?_)⟩
      refine ⟨_, rfl, rfl, _, rfl, ite2 (fun _ => ?_) (fun h => absurd (by decide) h)⟩
      have z := q _ s2
      simp only [lineOf, e_app] at z
      exact ⟨_, rfl, D, _, _, _, rfl, rfl, SqL.of gD, atI_nat (j := 0) rfl, _, _, rfl, rfl, line1000 (by (try simp only [strLen_append]); omega), _, rfl, D, _, _, _, rfl, rfl, SqL.of gD, atI_nat (j := 1) rfl, _, _, rfl, rfl, line1000 (by (try simp only [strLen_append]); omega), _, rfl, rfl, _, rfl, ite2 (fun h => absurd h (by decide)) (fun _ => ⟨_, _, rfl, rfl, line1000 (by (try simp only [strLen_append]); omega), _, rfl, D, _, _, _, rfl, rfl, SqL.of gD, atI_nat (j := 2) rfl, _, _, rfl, rfl, line1000 (by (try simp only [strLen_append]); omega), z⟩)⟩
    | cut x f =>
      have es : PyData.tuple [.str "cut", .str x, .str f] = .tuple (.str wd :: e :: ds) := es
      cases es
      have ok : Nm x ∧ Nm f := ok
      have l1 := ok.1.1
      have l2 := ok.2.1
      have gD : H2 D = some (.lst [V.str x, V.str f]) := gD
      refine ⟨_, rfl, rfl, _, rfl, ite2 (fun h => absurd h (by decide)) (fun _ => ?_)⟩
      refine ⟨_, rfl, rfl, _, rfl, ite2 (fun h => absurd h (by decide)) (fun _ => ?_)⟩
      refine ⟨_, rfl, rfl, _, rfl, ite2 (fun h => absurd h (by decide)) (fun _ => ?_)⟩
      refine ⟨_, rfl, rfl, _, rfl, ite2 (fun h => absurd h (by decide)) (fun _ => ?_)⟩
      refine ⟨_, rfl, rfl, _, rfl, ite2 (fun h => absurd h (by decide)) (fun _ => ?_)⟩
      refine ⟨_, rfl, rfl, _, rfl, ite2 (fun h => absurd h (by decide)) (fun _ => ?_)⟩
      refine ⟨_, rfl, rfl, _, rfl, ite2 (fun h => absurd h (by decide)) (fun _ => ?_)⟩
      refine ⟨_, rfl, rfl, _, rfl, ite2 (fun _ => ?_) (fun h => absurd (by decide) h)⟩
      have z := q _ s2
      simp only [lineOf, e_app] at z
      exact ⟨_, rfl, D, _, _, _, rfl, rfl, SqL.of gD, atI_nat (j := 0) rfl, _, _, rfl, rfl, line1000 (by (try simp only [strLen_append]); omega), _, _, rfl, rfl, line1000 (by (try simp only [strLen_append]); omega), _, rfl, D, _, _, _, rfl, rfl, SqL.of gD, atI_nat (j := 1) rfl, _, _, rfl, rfl, line1000 (by (try simp only [strLen_append]); omega), z⟩
    | wish x v =>
      have es : PyData.tuple [.str "wish", .str x, .str v] = .tuple (.str wd :: e :: ds) := es
      cases es
      have ok : Nm x ∧ Nm v := ok
      have l1 := ok.1.1
      have l2 := ok.2.1
      have gD : H2 D = some (.lst [V.str x, V.str v]) := gD
      refine ⟨_, rfl, rfl, _, rfl, ite2 (fun h => absurd h (by decide)) (fun _ => ?_)⟩
      refine ⟨_, rfl, rfl, _, rfl, ite2 (fun h => absurd h (by decide)) (fun _ => ?_)⟩
      refine ⟨_, rfl, rfl, _, rfl, ite2 (fun h => absurd h (by decide)) (fun _ => ?_)⟩
      refine ⟨_, rfl, rfl, _, rfl, ite2 (fun h => absurd h (by decide)) (fun _ => ?_)⟩
      refine ⟨_, rfl, rfl, _, rfl, ite2 (fun h => absurd h (by decide)) (fun _ => ?_)⟩
      refine ⟨_, rfl, rfl, _, rfl, ite2 (fun h => absurd h (by decide)) (fun _ => ?_)⟩
      refine ⟨_, rfl, rfl, _, rfl, ite2 (fun h => absurd h (by decide)) (fun _ => ?_)⟩
      refine ⟨_, rfl, rfl, _, rfl, ite2 (fun h => absurd h (by decide)) (fun _ => ?_)⟩
      have ez : lineOf (.act (.wish x v)) = Txt.join (Str.ofString " ") [Str.ofString "wish", x, v] := by
        rw [Txt_join3]
        simp only [lineOf, e_app, wish_sp, S_assoc]
      refine ⟨⟨_, rfl⟩, _, rfl, line1000 (Nat.le_of_ble_eq_true rfl), fun L1 n1 => ⟨_, rfl, L1, D, _, _, rfl, rfl, upd_same, (Same.up n1) _ _ gD, line1000 (Nat.le_of_ble_eq_true rfl), fun L3 n3 => ⟨Str.ofString " ", L3, [Str.ofString "wish", x, v], rfl, rfl, .inl (SqL.of upd_same), (by show (Str.ofString "wish").length + (x.length + (v.length + 0)) + 3 * (Str.ofString " ").length ≤ 16777216; omega), ?_⟩⟩⟩
      show Q (.str (Txt.join (Str.ofString " ") [Str.ofString "wish", x, v])) _
      rw [← ez]
      exact q _ (Same.trans s2 (Same.trans (Same.up n1) (Same.up n3)))
    | ask t =>
      have es : PyData.tuple [.str "ask", t.data] = .tuple (.str wd :: e :: ds) := es
      cases es
      have ok1 : t.ok := ok
      have tl := tst_len (t := t) ok1.1
      have t3 : t.depth ≤ 3 := ok1.2
      have d32 := TD.ch (Ch.same (S := []) s2) _ _ d3
      refine ⟨_, rfl, rfl, _, rfl, ite2 (fun _ => ?_) (fun h => absurd (by decide) h)⟩
      refine iteT ?_
      exact ⟨_, rfl, _, _, rfl, rfl, line1000 (by (try simp only [strLen_append]); omega), _, rfl, r, _, _, _, rfl, rfl, SqT.of gr2, atI_nat (j := 1) rfl, _, t, rfl, d32, ok1.1, t3, t3, fun H3 s3 => ⟨_, _, rfl, rfl, line1000 (by (try simp only [strLen_append]); omega), by
        have z := q _ (Same.trans s2 s3)
        simp only [lineOf, e_app] at z
        exact z⟩⟩
  | cond t y n =>
    have es : PyData.tuple [.str "if", t.data, .tuple (blkData y), .tuple (blkData n)] = .tuple (.str wd :: e :: ds) := es
    cases es
    have ok1 : t.ok := by
      cases d with
      | zero => exact ok.elim
      | succ d => exact ok.1
    have tl := tst_len (t := t) ok1.1
    have t3 : t.depth ≤ 3 := ok1.2
    have d32 := TD.ch (Ch.same (S := []) s2) _ _ d3
    refine ⟨_, rfl, rfl, _, rfl, ite2 (fun h => absurd h (by decide)) (fun _ => ?_)⟩
    refine ⟨_, rfl, rfl, _, rfl, ite2 (fun _ => ?_) (fun h => absurd (by decide) h)⟩
    exact ⟨_, rfl, _, _, rfl, rfl, line1000 (by (try simp only [strLen_append]); omega), _, rfl, r, _, _, _, rfl, rfl, SqT.of gr2, atI_nat (j := 1) rfl, _, t, rfl, d32, ok1.1, t3, t3, fun H3 s3 => ⟨_, _, rfl, rfl, line1000 (by (try simp only [strLen_append]); omega), by
      have z := q _ (Same.trans s2 s3)
      simp only [lineOf, e_app] at z
      exact z⟩⟩
  | rep k b =>
    have es : PyData.tuple [.str "repeat", .int k, .tuple (blkData b)] = .tuple (.str wd :: e :: ds) := es
    cases es
    have hk : k < 13 := by
      cases d with
      | zero => exact ok.elim
      | succ d => exact ok.1
    have hl : (intS k).length ≤ 2 := intS_len k (by omega)
    have gD : H2 D = some (.lst [V.str (intS k), V.str (strD (.tuple (blkData b)))]) := by simpa [strD, PyData.shown, intS] using gD
    refine ⟨_, rfl, rfl, _, rfl, ite2 (fun h => absurd h (by decide)) (fun _ => ?_)⟩
    refine ⟨_, rfl, rfl, _, rfl, ite2 (fun h => absurd h (by decide)) (fun _ => ?_)⟩
    refine ⟨_, rfl, rfl, _, rfl, ite2 (fun _ => ?_) (fun h => absurd (by decide) h)⟩
    have z := q _ s2
    simp only [lineOf, e_app, ← rep_sp] at z
    exact ⟨_, rfl, D, _, _, _, rfl, rfl, SqL.of gD, atI_nat (j := 0) rfl, _, _, rfl, rfl, line1000 (by (try simp only [strLen_append]); omega), z⟩
end
end G

set_option Elab.async false
set_option linter.all false
set_option maxRecDepth 100000
set_option maxHeartbeats 4000000
/-! k06: the lines are of Unicode's signs; lists of texts. -/
namespace G
open PySem PySem.Spec PyProof.Rows L2
theorem okS_empty : OkS Str.empty := fun c hc => by
  have hc : c ∈ ([] : List Nat) := hc
  exact nomatch hc
theorem tst_okS : ∀ {t : Tst}, t.nm → OkS (tstText t)
  | .given i, _ => ((okS_empty.app (OkS.of _)).app (OkS.of _)).app (OkS.of _)
  | .set x, h => ((okS_empty.app (OkS.of _)).app (OkS.of _)).app (show Nm x from h).2
  | .same x y, h => ((okS_empty.app (show Nm x ∧ Nm y from h).1.2).app (OkS.of _)).app (show Nm x ∧ Nm y from h).2.2
  | .full x y, h => (((okS_empty.app (OkS.of _)).app (show Nm x ∧ Nm y from h).1.2).app (OkS.of _)).app (show Nm x ∧ Nm y from h).2.2
  | .wished x, h => ((okS_empty.app (OkS.of _)).app (OkS.of _)).app (show Nm x from h).2
  | .not t, h => (OkS.of _).app (tst_okS (t := t) h)
theorem line_okS {d : Nat} {s : Sta} (ok : StaOk d s) : OkS (lineOf s) := by
  cases s with
  | act a =>
    have ok : a.nm := by cases d <;> exact ok
    cases a with
    | ask t => exact ((okS_empty.app (OkS.of _)).app (OkS.of _)).app (tst_okS (show t.ok from ok).1)
    | make x => exact ((okS_empty.app (OkS.of _)).app (OkS.of _)).app (show Nm x from ok).2
    | keep x => exact ((okS_empty.app (OkS.of _)).app (OkS.of _)).app (show Nm x from ok).2
    | drop x => exact ((okS_empty.app (OkS.of _)).app (OkS.of _)).app (show Nm x from ok).2
    | say x => exact ((okS_empty.app (OkS.of _)).app (OkS.of _)).app (show Nm x from ok).2
    | wish x y => exact (((okS_empty.app (OkS.of _)).app (show Nm x ∧ Nm y from ok).1.2).app (OkS.of _)).app (show Nm x ∧ Nm y from ok).2.2
    | name x y => exact ((okS_empty.app (show Nm x ∧ Nm y from ok).1.2).app (OkS.of _)).app (show Nm x ∧ Nm y from ok).2.2
    | cut x y => exact (((okS_empty.app (OkS.of _)).app (show Nm x ∧ Nm y from ok).1.2).app (OkS.of _)).app (show Nm x ∧ Nm y from ok).2.2
    | hold x y z => exact ((((okS_empty.app (show Nm x ∧ Nm y ∧ Nm z from ok).1.2).app (OkS.of _)).app (show Nm x ∧ Nm y ∧ Nm z from ok).2.1.2).app (OkS.of _)).app (show Nm x ∧ Nm y ∧ Nm z from ok).2.2.2
    | weak x y z => exact ((((okS_empty.app (show Nm x ∧ Nm y ∧ Nm z from ok).1.2).app (OkS.of _)).app (show Nm x ∧ Nm y ∧ Nm z from ok).2.1.2).app (OkS.of _)).app (show Nm x ∧ Nm y ∧ Nm z from ok).2.2.2
    | take x y z => exact ((((okS_empty.app (show Nm x ∧ Nm y ∧ Nm z from ok).1.2).app (OkS.of _)).app (show Nm x ∧ Nm y ∧ Nm z from ok).2.1.2).app (OkS.of _)).app (show Nm x ∧ Nm y ∧ Nm z from ok).2.2.2
  | cond t y n =>
    cases d with
    | zero => exact ok.elim
    | succ d => exact ((okS_empty.app (OkS.of _)).app (OkS.of _)).app (tst_okS ok.1.1)
  | rep k b => exact ((okS_empty.app (OkS.of _)).app (OkS.of _)).app (OkS.of _)
theorem ind_okS : ∀ k, OkS (ind k)
  | 0 => okS_empty
  | k + 1 => by
    unfold ind
    rw [repS_succ]
    exact (ind_okS k).app (OkS.of _)
theorem passL_okS (k : Nat) (b : List Sta) : ∀ y ∈ passL k b, OkS y := by
  intro y hy
  unfold passL at hy
  split at hy
  · rw [List.mem_singleton.mp hy]
    exact (ind_okS k).app (OkS.of _)
  · exact nomatch hy
theorem elseL_okS (k : Nat) (b : List Sta) : ∀ y ∈ elseL k b, OkS y := by
  intro y hy
  unfold elseL at hy
  split at hy
  · exact nomatch hy
  · rw [List.mem_singleton.mp hy]
    exact (ind_okS k).app (OkS.of _)
mutual
theorem staLines_okS : ∀ (k d : Nat) (s : Sta), StaOk d s → ∀ y ∈ staLines k s, OkS y
  | k, d, .act a, ok, y, hy => by
    have hy : y ∈ [ind k ++ lineOf (.act a)] := hy
    rw [List.mem_singleton.mp hy]
    exact (ind_okS k).app (line_okS ok)
  | k, 0, .cond t y n, ok, z, hz => by exact ok.elim
  | k, d + 1, .cond t y n, ok, z, hz => by
    have hz : z ∈ [ind k ++ lineOf (.cond t y n)] ++ blkLines (k + 1) y ++ passL (k + 1) y ++ elseL k n ++ blkLines (k + 1) n := hz
    have ok' : t.ok ∧ (∀ s ∈ y, StaOk d s) ∧ ∀ s ∈ n, StaOk d s := ok
    simp only [List.mem_append] at hz
    rcases hz with (((hz | hz) | hz) | hz) | hz
    · rw [List.mem_singleton.mp hz]
      exact (ind_okS k).app (line_okS ok)
    · exact blkLines_okS (k + 1) d y ok'.2.1 z hz
    · exact passL_okS _ _ z hz
    · exact elseL_okS _ _ z hz
    · exact blkLines_okS (k + 1) d n ok'.2.2 z hz
  | k, 0, .rep c b, ok, z, hz => by exact ok.elim
  | k, d + 1, .rep c b, ok, z, hz => by
    have hz : z ∈ [ind k ++ lineOf (.rep c b)] ++ blkLines (k + 1) b ++ passL (k + 1) b := hz
    have ok' : c < 13 ∧ ∀ s ∈ b, StaOk d s := ok
    simp only [List.mem_append] at hz
    rcases hz with (hz | hz) | hz
    · rw [List.mem_singleton.mp hz]
      exact (ind_okS k).app (line_okS ok)
    · exact blkLines_okS (k + 1) d b ok'.2 z hz
    · exact passL_okS _ _ z hz
theorem blkLines_okS : ∀ (k d : Nat) (b : List Sta), (∀ s ∈ b, StaOk d s) → ∀ y ∈ blkLines k b, OkS y
  | _, _, [], _, _, hy => nomatch hy
  | k, d, s :: r, ok, y, hy => by
    have hy : y ∈ staLines k s ++ blkLines k r := hy
    rcases List.mem_append.mp hy with hy | hy
    · exact staLines_okS k d s (ok s (List.mem_cons_self ..)) y hy
    · exact blkLines_okS k d r (fun z hz => ok z (List.mem_cons_of_mem _ hz)) y hy
end
theorem all_okS {g : Nat} {b : List Sta} (ok : ∀ s ∈ b, StaOk 5 s) : ∀ y ∈ allLines g b, OkS y := by
  intro y hy
  rcases List.mem_cons.mp hy with rfl | hy
  · exact (okS_empty.app (OkS.of _)).app (OkS.of _)
  · exact blkLines_okS 0 5 b ok y hy
theorem joinS_ok (s : Str) (hs : OkS s) (ys : List Str) (h : ∀ y ∈ ys, OkS y) : OkS (Txt.join s ys) := by
  rw [TL.join_eq]
  induction ys with
  | nil => exact okS_empty
  | cons y r ih =>
    have ih := ih fun z hz => h z (List.mem_cons_of_mem _ hz)
    have hy := h y (List.mem_cons_self ..)
    cases r with
    | nil => exact hy
    | cons z r => exact (hy.app hs).app ih
theorem joinS_len (s : Str) (ys : List Str) (B : Nat) (h : ∀ y ∈ ys, y.length ≤ B) : (Txt.join s ys).length ≤ ys.length * (B + s.length) := by
  rw [TL.join_eq]
  induction ys with
  | nil => exact Nat.zero_le _
  | cons y r ih =>
    have ih := ih fun z hz => h z (List.mem_cons_of_mem _ hz)
    have hy := h y (List.mem_cons_self ..)
    cases r with
    | nil =>
      show y.length ≤ 1 * (B + s.length)
      omega
    | cons z r =>
      show (y ++ s ++ Str.join s (z :: r)).length ≤ ((z :: r).length + 1) * (B + s.length)
      rw [strLen_append, strLen_append, Nat.add_mul, Nat.one_mul]
      omega
/-- a list of texts as data -/
theorem dp_strs {K : PySem.W.Frag} {H : Hp} : ∀ ys : List Str, DpAll K H (ys.map V.str) (ys.map PyData.str)
  | [] => .nil
  | y :: r => .cons (.str y) (dp_strs r)
theorem dpl_strs {K : PySem.W.Frag} {H : Hp} {L : Addr} {ys : List Str} (g : H L = some (.lst (ys.map V.str))) : Dp K H (.ref L) (.list (ys.map PyData.str)) := .lst (SqL.of g) (dp_strs ys)
theorem lay_strs : ∀ ys : List Str, (∀ y ∈ ys, OkS y) → PyData.canLayAll0 (ys.map PyData.str) = true
  | [], _ => rfl
  | y :: r, h => by
    show (PyData.canLay0 (.str y) && PyData.canLayAll0 (r.map PyData.str)) = true
    rw [lay_strs r fun z hz => h z (List.mem_cons_of_mem _ hz), show PyData.canLay0 (.str y) = true from OkS.ok (h y (List.mem_cons_self ..))]
    rfl
theorem dep_strs : ∀ ys : List Str, PyData.depthAll (ys.map PyData.str) = 0
  | [] => rfl
  | y :: r => by
    show max 0 (PyData.depthAll (r.map PyData.str)) = 0
    rw [dep_strs r]
    rfl
theorem shaped_strs {ys : List Str} (h : ∀ y ∈ ys, OkS y) : SeqAt.shaped (.list (ys.map PyData.str)) = true := by
  unfold SeqAt.shaped
  rw [show PyData.canLay0 (.list (ys.map PyData.str)) = true from lay_strs ys h]
  refine decide_eq_true ?_
  show PyData.depthAll (ys.map PyData.str) + 1 ≤ 64
  rw [dep_strs]
  decide
theorem eqv_nil (ys : List Str) : PyData.eqv (.list (ys.map PyData.str)) (.list []) = ys.isEmpty := by
  cases ys with
  | nil => simp [PyData.eqv, PyData.eqvAll]
  | cons y r => simp [PyData.eqv, PyData.eqvAll]
theorem blkLines_emp (k : Nat) (b : List Sta) : (blkLines k b).isEmpty = b.isEmpty := by
  cases b with
  | nil => rfl
  | cons s r => cases s <;> rfl
/-! ### the lines, part by part -/
def partL (k i : Nat) (b : List Sta) : List Str := if i = 0 then blkLines (k + 1) b ++ passL (k + 1) b else elseL k b ++ blkLines (k + 1) b
def accP (k : Nat) (bs : List (List Sta)) : Nat → List Str
  | 0 => []
  | i + 1 => accP k bs i ++ (match bs[i]? with | some b => partL k i b | none => [])
theorem staLines_acc (k : Nat) (s : Sta) : staLines k s = [ind k ++ lineOf s] ++ accP k (partsOf s) (partsOf s).length := by
  cases s with
  | act a => rfl
  | cond t y n => simp [staLines, partsOf, accP, partL]
  | rep c b => simp [staLines, partsOf, accP, partL]
theorem accP_succ {k i : Nat} {bs : List (List Sta)} {b : List Sta} (h : bs[i]? = some b) : accP k bs (i + 1) = accP k bs i ++ partL k i b := by
  show accP k bs i ++ (match bs[i]? with | some b => partL k i b | none => []) = _
  rw [h]
theorem ind_succ (k : Nat) : ind (k + 1) = ind k ++ Str.ofString "  " := repS_succ _ _
theorem pass_sp : Str.ofString "  pass" = Str.ofString "  " ++ Str.ofString "pass" := by decide +kernel
theorem ind_pass (k : Nat) : ind (k + 1) ++ Str.ofString "pass" = ind k ++ Str.ofString "  pass" := by rw [pass_sp, S_assoc, ind_succ]
end G

set_option Elab.async false
set_option linter.all false
set_option maxRecDepth 100000
set_option maxHeartbeats 4000000
/-! k06: the law's lines of a block. -/
namespace G
open PySem PySem.Spec PyProof.Rows L2
def spLs (d : Nat) : Sp := fun vs H Q _ => ∃ (v : V) (b : List Sta) (k : Nat), vs = [v, .str (ind k)] ∧ TD H v (.tuple (blkData b)) ∧ (∀ s ∈ b, StaOk d s) ∧ k + d ≤ 10 ∧ d ≤ 5 ∧ sizeB b ≤ 100 ∧ ∀ (H' : Hp) (p : Addr), Same H H' → H p = none → H' p = some (.lst ((blkLines k b).map V.str)) → Q (.ref p) H'
def spLs' : Nat → Sp
  | 0 => fun _ _ _ _ => False
  | d + 1 => spLs d
theorem parts_ok {d : Nat} {s : Sta} {i : Nat} {b : List Sta} (ok : StaOk d s) (h : (partsOf s)[i]? = some b) : ∃ d', d = d' + 1 ∧ (∀ z ∈ b, StaOk d' z) ∧ sizeB b ≤ s.size := by
  have hm := List.mem_of_getElem? h
  cases s with
  | act a => exact nomatch hm
  | cond t y n =>
    cases d with
    | zero => exact ok.elim
    | succ d =>
      refine ⟨d, rfl, ?_⟩
      have e : (Sta.cond t y n).size = 1 + (sizeB y + sizeB n) := rfl
      simp only [partsOf, List.mem_cons, List.not_mem_nil, or_false] at hm
      rcases hm with rfl | rfl
      · exact ⟨ok.2.1, by omega⟩
      · exact ⟨ok.2.2, by omega⟩
  | rep c y =>
    cases d with
    | zero => exact ok.elim
    | succ d =>
      refine ⟨d, rfl, ?_⟩
      have e : (Sta.rep c y).size = 1 + sizeB y := rfl
      simp only [partsOf, List.mem_cons, List.not_mem_nil, or_false] at hm
      subst hm
      exact ⟨ok.2, by omega⟩
theorem parts_len (s : Sta) : (partsOf s).length ≤ 2 := by cases s <;> exact Nat.le_of_ble_eq_true rfl
/-- what the first part's lines become -/
def fstL (k : Nat) (i : Nat) (ys : List Str) : List Str := if i = 0 ∧ ys.isEmpty = true then [ind k ++ Str.ofString "  pass"] else ys
def elsL (k : Nat) (i : Nat) (ys : List Str) : List Str := if i = 1 ∧ ys.isEmpty = false then [ind k ++ Str.ofString "else"] else []
theorem partL_eq {k i : Nat} {b : List Sta} (hi : i < 2) : partL k i b = elsL k i (fstL k i (blkLines (k + 1) b)) ++ fstL k i (blkLines (k + 1) b) := by
  have e := blkLines_emp (k + 1) b
  rcases (show i = 0 ∨ i = 1 by omega) with rfl | rfl
  · cases hb : b.isEmpty with
    | true =>
      rw [hb] at e
      simp [partL, elsL, fstL, passL, hb, ind_pass, List.isEmpty_iff.mp e]
    | false =>
      rw [hb] at e
      simp [partL, elsL, fstL, passL, hb, e]
  · cases hb : b.isEmpty with
    | true =>
      rw [hb] at e
      simp [partL, elsL, fstL, elseL, hb, e]
    | false =>
      rw [hb] at e
      simp [partL, elsL, fstL, elseL, hb, e]
theorem Same.putN {H H' : Hp} {L : Addr} {o : HO} (s : Same H H') (h : H L = none) : Same H (upd H' L o) := (((Kp.same (S := [L]) s).put (by simp)).fresh h).toSame
def twFst : TS := fun D σ H => ∃ (x0 x1 x2 x3 x4 : Option V) (k i : Nat) (q : Addr) (ys : List Str), σ = [x0, some (.str (ind k)), x2, x3, x4, some (.int (i : Int)), some (.ref q)] ∧ x1 = none ∧ H q = some (.lst (ys.map V.str)) ∧ (∀ y ∈ ys, OkS y) ∧ k ≤ 20 ∧
  ∀ (H' : Hp) (q' : Addr), Same H H' → H' q' = some (.lst ((fstL k i ys).map V.str)) → D.nx [x0, some (.str (ind k)), x2, x3, x4, some (.int (i : Int)), some (.ref q')] H'
def twEls : TE := fun σ H Q => ∃ (x0 x2 x3 x4 : Option V) (k i : Nat) (q : Addr) (ys : List Str), σ = [x0, some (.str (ind k)), x2, x3, x4, some (.int (i : Int)), some (.ref q)] ∧ H q = some (.lst (ys.map V.str)) ∧ (∀ y ∈ ys, OkS y) ∧ k ≤ 20 ∧
  ∀ (H' : Hp) (q' : Addr), Same H H' → H' q' = some (.lst ((elsL k i ys).map V.str)) → Q (.ref q') H'
theorem fstL_ok {k i : Nat} {ys : List Str} (h : ∀ y ∈ ys, OkS y) : ∀ y ∈ fstL k i ys, OkS y := by
  unfold fstL
  split
  · intro y hy
    rw [List.mem_singleton.mp hy]
    exact (ind_okS k).app (OkS.of _)
  · exact h
theorem fstL_len (k i : Nat) (ys : List Str) : (fstL k i ys).length ≤ ys.length + 1 := by
  unfold fstL
  split
  · show 1 ≤ _
    omega
  · omega
theorem elsL_len (k i : Nat) (ys : List Str) : (elsL k i ys).length ≤ 1 := by
  unfold elsL
  split
  · exact Nat.le_refl 1
  · exact Nat.zero_le 1
theorem accP_mono (k : Nat) (bs : List (List Sta)) : ∀ {i j : Nat}, i ≤ j → (accP k bs i).length ≤ (accP k bs j).length
  | i, 0, h => by rw [Nat.le_zero.mp h]; exact Nat.le_refl _
  | i, j + 1, h => by
    rcases Nat.le_or_eq_of_le_succ h with h | rfl
    · refine Nat.le_trans (accP_mono k bs h) ?_
      show _ ≤ (accP k bs j ++ _).length
      rw [List.length_append]
      omega
    · exact Nat.le_refl _
section
variable {P : Program} {w : World} {K : PySem.W.Frag} {mg : Str → Option Value} {base : Heap}
abbrev s__law_lines : Stmt := top 23
abbrev n__law_lines : List Str := ["_law_block", "_law_ahead", "_law_lines_here", "_law_row_here", "_law_parts", "_law_k", "_law_inner_here"]
theorem sc__law_lines : FnScope n__law_lines ["_law_block", "_law_ahead"] (defScope s__law_lines) := ⟨rfl, rfl, rfl, by decide +kernel, rfl, by decide +kernel, by decide +kernel⟩
theorem ok_ls {f fL fB fS : Addr} {fd dL dB dS : FuncData} {d k0 : Nat} (F : Fun K "_law_lines" "_law_lines" s__law_lines f fd) (T : Bi mg)
    (DL : Df K mg "_law_line" s__law_line ["_law_row_here"] fL dL) (GL : FnOkG P w K mg base 5 fL dL ["_law_row_here"] spLL)
    (DB : Df K mg "_law_blocks" s__law_blocks ["_law_row_here"] fB dB) (GB : FnOk P w K mg base CX0 1 fB dB ["_law_row_here"] spLB)
    (mS : mg "_law_lines" = some (.ref fS)) (kS : PySem.W.keepIn K (.ref fS) = true) (bS : Binds K dS ["_law_block", "_law_ahead"] []) (hk0 : 5 ≤ k0) (GS : FnOkG P w K mg base k0 fS dS ["_law_block", "_law_ahead"] (spLs' d)) : FnOkG P w K mg base (k0 + 1) f fd ["_law_block", "_law_ahead"] (spLs d) := by
  refine G.Fun.okG F sc__law_lines (fun vs H Q E ⟨v, b, k, ev, _⟩ => by rw [ev]; rfl) (fun cdv A outer s0 H vs Q E gA hr ⟨v, b, k, ev, td, ok, hk, hd5, hz, q⟩ => ?_)
  subst ev
  have hr5 : Room 5 _ := hr.mono hk0
  have hr1 : Room 1 _ := hr5.mono (by decide)
  have hu64 : (A.deeper (envOfC "_law_lines" (defScope s__law_lines) s0.heap.objs.size f cdv)).units + 64 < cLine := by have := hr.un; omega
  have gu : (A.deeper (envOfC "_law_lines" (defScope s__law_lines) s0.heap.objs.size f cdv)).guards = some [] := gA
  refine ⟨_, (pss_cons (ps_set (i := 2) sc__law_lines.nd rfl (.inl rfl) (pe_lst pa_nil))
      (pss_cons (ps_for PassesOwn.never rfl (pi_tup (pv 0)) (pg_name (i := 3) sc__law_lines.nd rfl (.inl rfl))
      (pss_cons (ps_expr (pe_bm PySem.F.plainAttrs_list PySem.F.slot_list_append PySem.F.type_list_append mt_append (pv 2) (pa_cons (pe_op op_add_str (pv 1) (pe_callG GL gu hr5 (by rfl) DL.m DL.F.kp DL.b (pa_cons (pv 3) pa_nil))) pa_nil)))
      (pss_cons (ps_set (i := 4) sc__law_lines.nd rfl (.inl rfl) (pe_call GB hr1 (by rfl) DB.m DB.F.kp DB.b .nil pass0 (pa_cons (pv 3) pa_nil)))
      (pss_one (ps_for PassesOwn.never rfl (pi_range1 (by rfl) T.z_range (pa_cons (pe_callB call_len_seq (by rfl) T.z_len (by decide +kernel) (pa_cons (pv 4) pa_nil)) pa_nil)) (pg_name (i := 5) sc__law_lines.nd rfl (.inl rfl))
      (pss_cons (ps_set (i := 6) sc__law_lines.nd rfl (.inl rfl) (pe_callG GS gu hr (by rfl) mS kS bS (pa_cons (pe_ix ix_list (pv 4) (pv 5) (fun _ _ => rfl)) (pa_cons (pe_op op_add_str (pv 1) pe_str) pa_nil))))
      (pss_cons (ps_weak (tw := twFst) (ps_if (PW.pt (pw_and (pt_cmpR op_eq (pv 5) pe_int (nomark _)) (pw_and1 (pt_cmpR (op_eqD hu64) (pv 6) (pe_lst pa_nil) (nomark _)))))
      (pss_one (ps_set (i := 6) sc__law_lines.nd rfl (.inl rfl) (pe_lst (pa_cons (pe_op op_add_str (pv 1) pe_str) pa_nil))))
      pss_nil) (fun Dn σ H ⟨x0, x1, x2, x3, x4, k, i, q, ys, eσ, _, gq, hy, hk, w⟩ => by
        subst eσ
        refine ⟨_, rfl, rfl, _, rfl, ite2 (fun h => ?_) (fun h => ?_)⟩
        · have h0 : i = 0 := by
            have z := V.int.inj (of_decide_eq_true h)
            omega
          refine ⟨_, rfl, line1000 (Nat.zero_le _), fun t nt => ⟨_, _, dpl_strs (Same.up nt _ _ gq), .lst (SqL.of upd_same) .nil, shaped_strs hy, rfl, _, rfl, ?_⟩⟩
          rw [eqv_nil]
          cases hE : ys.isEmpty with
          | true =>
            refine iteT ⟨_, rfl, _, _, rfl, rfl, line1000 (by rw [ind_len]; show k * 2 + 6 ≤ 1000; omega), line1000 (Nat.le_of_ble_eq_true rfl), fun t2 nt2 => w _ t2 (Same.trans (Same.up nt) (Same.up nt2)) ?_⟩
            unfold fstL
            rw [if_pos ⟨h0, hE⟩]
            exact upd_same
          | false =>
            refine iteF (w _ q (Same.up nt) ?_)
            unfold fstL
            rw [if_neg (fun z => by rw [hE] at z; exact nomatch z.2)]
            exact Same.up nt _ _ gq
        · have h0 : i ≠ 0 := fun z => h (decide_eq_true (by rw [z]; rfl))
          refine iteF (w _ q (Same.refl _) ?_)
          unfold fstL
          rw [if_neg (fun z => h0 z.1)]
          exact gq))
      (pss_one (ps_set (i := 2) sc__law_lines.nd rfl (.inl rfl) (pe_op op_cat (pe_op op_cat (pv 2) (pe_cons (tw := twEls) (pe_ifExp (PW.pt (pw_and (pt_cmpR op_eq (pv 5) pe_int (nomark _)) (pw_and1 (pt_cmpR (op_neD hu64) (pv 6) (pe_lst pa_nil) (nomark _))))) (pe_lst (pa_cons (pe_op op_add_str (pv 1) pe_str) pa_nil)) (pe_lst pa_nil)) (fun σ H Q ⟨x0, x2, x3, x4, k, i, q, ys, eσ, gq, hy, hk, w⟩ => by
        subst eσ
        refine ⟨_, rfl, rfl, _, rfl, ite2 (fun h => ?_) (fun h => ?_)⟩
        · have h0 : i = 1 := by
            have z := V.int.inj (of_decide_eq_true h)
            omega
          refine ⟨_, rfl, line1000 (Nat.zero_le _), fun t nt => ⟨_, _, dpl_strs (Same.up nt _ _ gq), .lst (SqL.of upd_same) .nil, shaped_strs hy, rfl, _, rfl, ?_⟩⟩
          rw [eqv_nil]
          cases hE : ys.isEmpty with
          | true =>
            refine iteF ⟨line1000 (Nat.zero_le _), fun t2 nt2 => w _ t2 (Same.trans (Same.up nt) (Same.up nt2)) ?_⟩
            unfold elsL
            rw [if_neg (fun z => by rw [hE] at z; exact nomatch z.2)]
            exact upd_same
          | false =>
            refine iteT ⟨_, rfl, _, _, rfl, rfl, line1000 (by rw [ind_len]; show k * 2 + 4 ≤ 1000; omega), line1000 (Nat.le_of_ble_eq_true rfl), fun t2 nt2 => w _ t2 (Same.trans (Same.up nt) (Same.up nt2)) ?_⟩
            unfold elsL
            rw [if_pos ⟨h0, hE⟩]
            exact upd_same
        · have h0 : i ≠ 1 := fun z => h (decide_eq_true (by rw [z]; rfl))
          refine iteF ⟨line1000 (Nat.zero_le _), fun t2 nt2 => w _ t2 (Same.up nt2) ?_⟩
          unfold elsL
          rw [if_neg (fun z => h0 z.1)]
          exact upd_same))) (pv 6)))))))))))
      (pss_one (ps_ret (pv 2))))), ?_⟩
  obtain ⟨r0, xs, rfl, gr0, tds⟩ := td_tup td
  refine ⟨Nat.zero_le _, fun L0 nL0 => ?_⟩
  refine ⟨_, rfl, r0, rfl, ⟨_, SqT.of (Same.up nL0 _ _ gr0)⟩, for_tup (xs := xs) (fun j σ H' => Same H H' ∧ ∃ (Lj : Addr) (x3 x4 x5 x6 : Option V), H Lj = none ∧ H' Lj = some (.lst ((blkLines k (b.take j)).map V.str)) ∧ σ = [some (.ref r0), some (.str (ind k)), some (.ref Lj), x3, x4, x5, x6])
    ⟨Same.up nL0, L0, none, none, none, none, nL0, upd_same, rfl⟩ (fun j σ H' _ h => SqT.of (h.1 _ _ gr0)) ?_ ?_⟩
  · rintro j x σ H' hx ⟨s1, Lj, x3, x4, x5, x6, nLj, gL, rfl⟩
    obtain ⟨dt, edt, tdv⟩ := (TDs.ch (Ch.same (S := []) s1) _ _ tds).at hx
    rw [blkData_eq, List.getElem?_map] at edt
    obtain ⟨s, hs, rfl⟩ := Option.map_eq_some_iff.mp edt
    have oks := ok s (List.mem_of_getElem? hs)
    have szs := size_mem (List.mem_of_getElem? hs)
    have ll := line_len oks
    have bl : (blkLines k (b.take j)).length ≤ 300 := by
      have h1 := blkLines_len k (b.take j)
      have h2 := size_take b j
      omega
    have step : blkLines k (b.take (j + 1)) = blkLines k (b.take j) ++ staLines k s := by
      rw [List.take_add_one, hs]
      exact blkLines_snoc k s _
    refine ⟨_, rfl, .inl ⟨rfl, _, SqL.of gL⟩, _, rfl, _, rfl, x, s, d, rfl, tdv, oks, hd5, by omega, fun Ha sa => ⟨_, _, rfl, rfl, line1000 (by rw [ind_len]; omega), Lj, _, _, rfl, rfl, sa _ _ gL, lt_line (by rw [List.length_map]; omega), ?_⟩⟩
    have sb : Same H (upd Ha Lj (.lst ((blkLines k (b.take j)).map V.str ++ [.str (ind k ++ lineOf s)]))) := Same.putN (Same.trans s1 sa) nLj
    have gLb : upd Ha Lj (.lst ((blkLines k (b.take j)).map V.str ++ [.str (ind k ++ lineOf s)])) Lj = some (.lst ((blkLines k (b.take j) ++ [ind k ++ lineOf s]).map V.str)) := by
      rw [upd_same, List.map_append]
      rfl
    have tdb : TD (upd Ha Lj (.lst ((blkLines k (b.take j)).map V.str ++ [.str (ind k ++ lineOf s)]))) x s.data := by
      obtain ⟨dt2, edt2, tdv2⟩ := (TDs.ch (Ch.same (S := []) sb) _ _ tds).at hx
      rw [blkData_eq, List.getElem?_map, hs] at edt2
      cases edt2
      exact tdv2
    generalize upd Ha Lj (.lst ((blkLines k (b.take j)).map V.str ++ [.str (ind k ++ lineOf s)])) = Hb at sb gLb tdb ⊢
    refine ⟨_, rfl, x, s, rfl, tdb, fun Hp p ps sp np gp tdp => ?_⟩
    have lps : ps.length = (partsOf s).length := by rw [tdp.len, List.length_map]
    have lp2 := parts_len s
    have nLb : ∀ z, z = Lj → z = Lj := fun _ h => h
    refine ⟨_, rfl, p, ps, rfl, .inl (SqL.of gp), (ps.length : Int), rfl, by omega, by omega, for_range (lo := 0) (n := ps.length) (fun i σ H' => Same Hp H' ∧ ∃ (Li : Addr) (x5 x6 : Option V), H Li = none ∧ H' Li = some (.lst ((blkLines k (b.take j) ++ [ind k ++ lineOf s] ++ accP k (partsOf s) i).map V.str)) ∧ σ = [some (.ref r0), some (.str (ind k)), some (.ref Li), some x, some (.ref p), x5, x6])
      ⟨Same.refl _, Lj, x5, x6, nLj, ?_, rfl⟩ ?_ ?_⟩
    · rw [sp _ _ gLb]
      show _ = some (HO.lst ((blkLines k (b.take j) ++ [ind k ++ lineOf s] ++ []).map V.str))
      rw [List.append_nil]
    · rintro i σ H1 hi ⟨s2, Li, y5, y6, nLi, gLi, rfl⟩
      have hi2 : i < 2 := by omega
      obtain ⟨v, hv⟩ : ∃ v, ps[i]? = some v := ⟨_, List.getElem?_eq_getElem hi⟩
      obtain ⟨dp, edp, tdv2⟩ := (TDs.ch (Ch.same (S := []) s2) _ _ tdp).at hv
      rw [List.getElem?_map] at edp
      obtain ⟨pb, hpb, rfl⟩ := Option.map_eq_some_iff.mp edp
      obtain ⟨d', rfl, okb, szb⟩ := parts_ok oks hpb
      refine ⟨_, rfl, _, rfl, p, ps, _, v, rfl, rfl, SqL.of (s2 _ _ gp), by rw [Int.zero_add]; exact atI_nat (j := i) hv, ?_⟩
      have lac : (accP k (partsOf s) i).length ≤ 300 := by
        have e1 : accP k (partsOf s) (i + 1) = accP k (partsOf s) i ++ partL k i pb := accP_succ hpb
        have e2 := staLines_len k s
        rw [staLines_acc, List.length_append] at e2
        have e3 : (accP k (partsOf s) i).length ≤ (accP k (partsOf s) (partsOf s).length).length := accP_mono k (partsOf s) (by omega)
        omega
      have hbl := blkLines_len (k + 1) pb
      have hfl := fstL_len k i (blkLines (k + 1) pb)
      have hel := elsL_len k i (fstL k i (blkLines (k + 1) pb))
      have hok := blkLines_okS (k + 1) d' pb okb
      refine ⟨_, rfl, _, _, rfl, rfl, line1000 (by rw [ind_len]; show k * 2 + 2 ≤ 1000; omega), v, pb, k + 1, by rw [ind_succ], tdv2, okb, by omega, by omega, by omega, fun Hc qq sc nq gq => ?_⟩
      rw [Int.zero_add]
      refine ⟨_, none, _, _, _, k, i, qq, blkLines (k + 1) pb, rfl, rfl, gq, hok, by omega, fun Hd q1 sd g1 => ?_⟩
      have sHd : Same H Hd := Same.trans sb (Same.trans sp (Same.trans s2 (Same.trans sc sd)))
      have gLd := sd _ _ (sc _ _ gLi)
      refine ⟨_, rfl, _, _, _, _, k, i, q1, fstL k i (blkLines (k + 1) pb), rfl, g1, fstL_ok hok, by omega, fun He q2 se g2 => ?_⟩
      refine ⟨Li, q2, _, _, rfl, rfl, se _ _ gLd, g2, Nat.le_of_lt (lt_line (by simp only [List.length_map, List.length_append, List.length_cons, List.length_nil]; omega)), fun L8 n8 => ?_⟩
      have s8 := Same.up (o := HO.lst ((blkLines k (b.take j) ++ [ind k ++ lineOf s] ++ accP k (partsOf s) i).map V.str ++ (elsL k i (fstL k i (blkLines (k + 1) pb))).map V.str)) n8
      refine ⟨_, rfl, L8, q1, _, _, rfl, rfl, upd_same, s8 _ _ (se _ _ g1), Nat.le_of_lt (lt_line (by simp only [List.length_map, List.length_append, List.length_cons, List.length_nil]; omega)), fun L9 n9 => ?_⟩
      refine ⟨Same.trans s2 (Same.trans sc (Same.trans sd (Same.trans se (Same.trans s8 (Same.up n9))))), L9, _, _, Same.free (Same.trans sHd (Same.trans se s8)) n9, ?_, rfl⟩
      rw [upd_same, accP_succ hpb, partL_eq hi2]
      simp only [List.map_append, List.append_assoc]
    · rintro σ H1 ⟨s2, Li, y5, y6, nLi, gLi, rfl⟩
      refine ⟨Same.trans sb (Same.trans sp s2), Li, _, _, _, _, nLi, ?_, rfl⟩
      rw [gLi, lps, step, staLines_acc, List.append_assoc]
  · rintro σ H' ⟨s1, Lj, x3, x4, x5, x6, nLj, gL, rfl⟩
    have lx : xs.length = b.length := by rw [tds.len, blkData_eq, List.length_map]
    rw [lx, List.take_length] at gL
    exact ⟨_, rfl, q H' Lj s1 nLj gL⟩
end
end G

set_option Elab.async false
set_option linter.all false
set_option maxRecDepth 100000
set_option maxHeartbeats 4000000
/-! k06: all lines; the law. -/
namespace G
open PySem PySem.Spec PyProof.Rows L2
def spAll : Sp := fun vs H Q _ => ∃ (v : V) (g : Nat) (b : List Sta), vs = [v] ∧ TD H v (.tuple [.int (g : Int), .tuple (blkData b)]) ∧ g < 4 ∧ (∀ s ∈ b, StaOk 5 s) ∧ sizeB b ≤ 100 ∧ ∀ (H' : Hp) (p : Addr), Same H H' → H p = none → H' p = some (.lst ((allLines g b).map V.str)) → Q (.ref p) H'
theorem ind0 : ind 0 = Str.ofString "" := rfl
section
variable {P : Program} {w : World} {K : PySem.W.Frag} {mg : Str → Option Value} {base : Heap}
theorem ok_lsAll {f fL fB : Addr} {fd dL dB : FuncData} (D : Df K mg "_law_lines" s__law_lines ["_law_block", "_law_ahead"] f fd) (T : Bi mg)
    (DL : Df K mg "_law_line" s__law_line ["_law_row_here"] fL dL) (GL : FnOkG P w K mg base 5 fL dL ["_law_row_here"] spLL)
    (DB : Df K mg "_law_blocks" s__law_blocks ["_law_row_here"] fB dB) (GB : FnOk P w K mg base CX0 1 fB dB ["_law_row_here"] spLB) : FnOkG P w K mg base 11 f fd ["_law_block", "_law_ahead"] (spLs 5) := by
  have Z : FnOkG P w K mg base 5 f fd ["_law_block", "_law_ahead"] (spLs' 0) := ⟨fun _ _ _ _ h => h.elim, fun _ _ _ _ _ _ _ _ _ _ _ _ _ _ h => h.elim⟩
  have B0 := ok_ls (d := 0) D.F T DL GL DB GB D.m D.F.kp D.b (by decide) Z
  have B1 := ok_ls (d := 1) D.F T DL GL DB GB D.m D.F.kp D.b (by decide) B0
  have B2 := ok_ls (d := 2) D.F T DL GL DB GB D.m D.F.kp D.b (by decide) B1
  have B3 := ok_ls (d := 3) D.F T DL GL DB GB D.m D.F.kp D.b (by decide) B2
  have B4 := ok_ls (d := 4) D.F T DL GL DB GB D.m D.F.kp D.b (by decide) B3
  exact ok_ls (d := 5) D.F T DL GL DB GB D.m D.F.kp D.b (by decide) B4
abbrev s__law_all_lines : Stmt := top 24
abbrev n__law_all_lines : List Str := ["_law_program"]
theorem sc__law_all_lines : FnScope n__law_all_lines ["_law_program"] (defScope s__law_all_lines) := ⟨rfl, rfl, rfl, by decide +kernel, rfl, by decide +kernel, by decide +kernel⟩
theorem ok_all {f fS : Addr} {fd dS : FuncData} (F : Fun K "_law_all_lines" "_law_all_lines" s__law_all_lines f fd) (z_str : mg "str" = none)
    (DS : Df K mg "_law_lines" s__law_lines ["_law_block", "_law_ahead"] fS dS) (GS : FnOkG P w K mg base 11 fS dS ["_law_block", "_law_ahead"] (spLs 5)) : FnOkG P w K mg base 12 f fd ["_law_program"] spAll := by
  refine G.Fun.okG F sc__law_all_lines (fun vs H Q E ⟨v, g, b, ev, _⟩ => by rw [ev]; rfl) (fun cdv A outer s0 H vs Q E gA hr ⟨v, g, b, ev, td, hg, ok, hz, q⟩ => ?_)
  subst ev
  have gu : (A.deeper (envOfC "_law_all_lines" (defScope s__law_all_lines) s0.heap.objs.size f cdv)).guards = some [] := gA
  refine ⟨_, (pss_one (ps_ret (pe_op op_cat (pe_lst (pa_cons (pe_op op_add_str pe_str (pe_callTy call_strIS (by rfl) z_str (by decide +kernel) (pa_cons (pe_ix ix_tup (pv 0) pe_int (fun _ _ => rfl)) pa_nil))) pa_nil)) (pe_callG GS gu hr (by rfl) DS.m DS.F.kp DS.b (pa_cons (pe_ix ix_tup (pv 0) pe_int (fun _ _ => rfl)) (pa_cons pe_str pa_nil)))))), ?_⟩
  obtain ⟨r0, xs, rfl, gr0, e0⟩ := td_tup td
  obtain ⟨v1, ys, rfl, d1, e1⟩ := tds_cons e0
  cases d1
  obtain ⟨v2, rfl, d2⟩ := tds1 e1
  obtain ⟨rb, zs, rfl, gz, dz⟩ := td_tup d2
  have hl : (Str.ofString (toString (g : Int))).length ≤ 2 := intS_len g (by omega)
  have q1 : (Str.ofString "givens ").length = 7 := rfl
  refine ⟨_, rfl, r0, _, _, _, rfl, rfl, SqT.of gr0, atI_nat (j := 0) rfl, .inl ⟨_, rfl, log4 hg, _, _, rfl, rfl, line1000 (by omega), line1000 (Nat.le_of_ble_eq_true rfl), fun L1 n1 => ?_⟩⟩
  have s1 := Same.up (o := HO.lst [V.str (Str.ofString "givens " ++ Str.ofString (toString (g : Int)))]) n1
  have g1 : upd H L1 (HO.lst [V.str (Str.ofString "givens " ++ Str.ofString (toString (g : Int)))]) L1 = some (.lst [V.str (Str.ofString "givens " ++ Str.ofString (toString (g : Int)))]) := upd_same
  have gr1 := s1 _ _ gr0
  have gz1 := s1 _ _ gz
  have dz1 := TDs.ch (Ch.same (S := []) s1) _ _ dz
  generalize upd H L1 (HO.lst [V.str (Str.ofString "givens " ++ Str.ofString (toString (g : Int)))]) = H1 at s1 g1 gr1 gz1 dz1 ⊢
  have hz1 := blkLines_len 0 b
  refine ⟨_, rfl, r0, _, _, _, rfl, rfl, SqT.of gr1, atI_nat (j := 1) rfl, .ref rb, b, 0, rfl, .tup gz1 dz1, ok, by omega, by omega, hz, fun H2 p s2 np gp => ?_⟩
  have g2 := s2 _ _ g1
  refine ⟨L1, p, _, _, rfl, rfl, g2, gp, Nat.le_of_lt (lt_line (by simp only [List.length_map, List.length_cons, List.length_nil]; omega)), fun L3 n3 => ?_⟩
  refine q _ L3 (Same.trans (Same.trans s1 s2) (Same.up n3)) (Same.free (Same.trans s1 s2) n3) ?_
  rw [upd_same]
  show _ = some (HO.lst ((allLines g b).map V.str))
  unfold allLines
  rw [e_app]
  rfl
/-! ### the law -/
def twoD (x : Str) : PyData := .list [.str x, .str x]
theorem two_dp {K : PySem.W.Frag} {H : Hp} {l : Addr} {x : Str} (g : H l = some (.lst [V.str x, V.str x])) : Dp K H (.ref l) (twoD x) := .lst (SqL.of g) (.cons (.str x) (.cons (.str x) .nil))
theorem twoD_ok {g : Nat} {b : List Sta} (hg : g < 4) (ok : ∀ s ∈ b, StaOk 5 s) (hz : sizeB b ≤ 31) : Showy (twoD (Txt.join (Str.ofString "\n") (allLines g b))) 1000000 := by
  have o := joinS_ok (Str.ofString "\n") (OkS.of _) (allLines g b) (all_okS ok)
  have e1 := joinS_len (Str.ofString "\n") (allLines g b) 200 (all_le hg ok)
  have e2 := blkLines_len 0 b
  have e3 : (allLines g b).length = (blkLines 0 b).length + 1 := rfl
  have e4 : (allLines g b).length * (200 + (Str.ofString "\n").length) ≤ 94 * 201 := Nat.mul_le_mul (by omega) (Nat.le_of_ble_eq_true rfl)
  refine ⟨rfl, rfl, ⟨o, o, trivial⟩, Nat.le_of_ble_eq_true rfl, ?_⟩
  show 10 * (Txt.join (Str.ofString "\n") (allLines g b)).length + 2 + 2 + (10 * (Txt.join (Str.ofString "\n") (allLines g b)).length + 2 + 2 + 0) + 4 ≤ 1000000
  omega
abbrev s_law : Stmt := top 25
abbrev n_law : List Str := ["_law_script", "_law_deck_here", "_law_turn", "_law_program", "_law_pool_here", "_law_due"]
theorem sc_law : FnScope n_law ["_law_script"] (defScope s_law) := ⟨rfl, rfl, rfl, by decide +kernel, rfl, by decide +kernel, by decide +kernel⟩
theorem ok_law {f fD fW fF fA fP : Addr} {fd dD dW dF dA dP : FuncData} (F : Fun K "law" "law" s_law f fd) (z_range : mg "range" = none) (z_repr : mg "repr" = none)
    (DD : Df K mg "_law_deck" s__law_deck ["_law_script"] fD dD) (GD : FnOk P w K mg base CX0 1 fD dD ["_law_script"] (spDeck K))
    (DW : Df K mg "_law_draw" s__law_draw ["_law_deck_here", "_law_many"] fW dW) (GW : FnOk P w K mg base CX0 1 fW dW ["_law_deck_here", "_law_many"] spDraw)
    (DF : Df K mg "_law_free" s__law_free ["_law_deck_here", "_law_most"] fF dF) (GF : FnOk P w K mg base CX0 15 fF dF ["_law_deck_here", "_law_most"] spFree)
    (DA : Df K mg "_law_all_lines" s__law_all_lines ["_law_program"] fA dA) (GA : FnOkG P w K mg base 12 fA dA ["_law_program"] spAll)
    (DP : Df K mg "program_text" s_program_text ["program"] fP dP) (GP : FnOk P w K mg base CX0 12 fP dP ["program"] spPT) : FnOkG P w K mg base 16 f fd ["_law_script"] (spLawN K 63) := by
  refine G.Fun.okG F sc_law (fun vs H Q E ⟨a, ns, ev, _⟩ => by rw [ev]; rfl) (fun cdv A outer s H vs Q E gA hr ⟨a, ns, ev, hS, hlen, q⟩ => ?_)
  subst ev
  have hr1 : Room 1 _ := hr.mono (by decide)
  have hr12 : Room 12 _ := hr.mono (by decide)
  have hu101 : (A.deeper (envOfC "law" (defScope s_law) s.heap.objs.size f cdv)).units + 101 < cLine := by have := hr.un; omega
  have gu : (A.deeper (envOfC "law" (defScope s_law) s.heap.objs.size f cdv)).guards = some [] := gA
  refine ⟨_, (pss_cons (ps_set (i := 1) sc_law.nd rfl (.inl rfl) (pe_call GD hr1 (by rfl) DD.m DD.F.kp DD.b .nil pass0 (pa_cons (pv 0) pa_nil)))
      (pss_cons (ps_for PassesOwn.never rfl (pi_range1 (by rfl) z_range (pa_cons pe_int pa_nil)) (pg_name (i := 2) sc_law.nd rfl (.inl rfl))
      (pss_cons (ps_asg (pe_call GF hr (by rfl) DF.m DF.F.kp DF.b .nil pass0 (pa_cons (pv 1) (pa_cons (pe_op op_addE pe_int (pe_call GW hr1 (by rfl) DW.m DW.F.kp DW.b .nil pass0 (pa_cons (pv 1) (pa_cons pe_int pa_nil)))) pa_nil))) (pg_tup rfl (pgs_cons (pg_name (i := 3) sc_law.nd rfl (.inl rfl)) (pgs_cons (pg_name (i := 4) sc_law.nd rfl (.inl rfl)) pgs_nil))))
      (pss_cons (ps_set (i := 5) sc_law.nd rfl (.inl rfl) (pe_join pe_str (pe_callG GA gu hr12 (by rfl) DA.m DA.F.kp DA.b (pa_cons (pv 3) pa_nil))))
      (pss_one (ps_if (pt_cmpR op_ne (pe_callB (show CallR _ (.builtin "repr") (rShow K) from call_show gu hu101) (by rfl) z_repr (by decide +kernel) (pa_cons (pe_lst (pa_cons (pe_call GP hr12 (by rfl) DP.m DP.F.kp DP.b .nil pass0 (pa_cons (pv 3) pa_nil)) (pa_cons (pe_call GP hr12 (by rfl) DP.m DP.F.kp DP.b .nil pass0 (pa_cons (pv 3) pa_nil)) pa_nil))) pa_nil)) (pe_callB (show CallR _ (.builtin "repr") (rShow K) from call_show gu hu101) (by rfl) z_repr (by decide +kernel) (pa_cons (pe_lst (pa_cons (pv 5) (pa_cons (pv 5) pa_nil))) pa_nil)) (nomark _))
      (pss_one (ps_ret pe_bl))
      pss_nil)))))
      (pss_one (ps_ret pe_bl)))), ?_⟩
  refine ⟨_, rfl, a, ns, rfl, hS, hlen, fun H1 D L s1 hD nD nL => ?_⟩
  refine ⟨_, rfl, by decide, by decide, for_range (lo := 0) (n := 2) (fun j σ H' => Deck H' D L (0 + j * (10 ^ 10)) ∧ ∃ (x2 x3 x4 x5 : Option V), σ = [some (.ref a), some (.ref D), x2, x3, x4, x5]) ⟨hD.mono (by omega), none, none, none, none, rfl⟩ ?_ ?_⟩
  · rintro j σ H' hj ⟨hD', x2, x3, x4, x5, rfl⟩
    refine ⟨_, rfl, _, rfl, D, L, _, 30, rfl, hD', by omega, by decide, by decide, fun H2 r k2 hD2 r0 r1 => ⟨1, r, rfl, rfl, fun z ez => ⟨D, L, _, z, rfl, hD2, by omega, ⟨by omega, by omega⟩, fun H3 t p ap g blk k3 hD3 gt tdp hg hok hsz hp => ?_⟩⟩⟩
    obtain ⟨gn, rfl⟩ : ∃ gn : Nat, g = gn := ⟨g.toNat, by omega⟩
    have hgn : gn < 4 := by omega
    have hs31 : sizeB blk ≤ 31 := by omega
    have hT := twoD_ok hgn hok hs31
    refine ⟨t, _, rfl, SqT.of gt, rfl, _, _, rfl, _, _, rfl, rfl, ?_⟩
    refine ⟨⟨_, rfl⟩, _, rfl, .ref p, gn, blk, rfl, tdp, hgn, hok, by omega, fun H4 p4 s4 np4 gp4 => ⟨Str.ofString "\n", p4, allLines gn blk, rfl, rfl, .inl (SqL.of gp4), ?_, ?_⟩⟩
    · have e1 := sum_le (allLines gn blk) 200 (all_le hgn hok)
      have e2 := all_len (g := gn) (b := blk) (by omega)
      show ((allLines gn blk).map (·.length)).sum + (allLines gn blk).length * 1 ≤ 16777216
      omega
    · have td4 := TD.ch (Ch.same (S := []) s4) _ _ tdp
      refine ⟨_, rfl, .ref p, gn, blk, rfl, td4, hgn, hok, by omega, fun H5 s5 => ?_⟩
      have td5 := TD.ch (Ch.same (S := []) s5) _ _ td4
      refine ⟨_, rfl, .ref p, gn, blk, rfl, td5, hgn, hok, by omega, fun H6 s6 => ⟨line1000 (Nat.le_of_ble_eq_true rfl), fun l nl => ?_⟩⟩
      have s7 := Same.up (o := HO.lst [V.str (Txt.join (Str.ofString "\n") (allLines gn blk)), V.str (Txt.join (Str.ofString "\n") (allLines gn blk))]) nl
      refine ⟨_, twoD (Txt.join (Str.ofString "\n") (allLines gn blk)), rfl, .inl ⟨two_dp upd_same, hT.h⟩, hT.s, hT.o, hT.p, hT.b, ?_⟩
      refine ⟨_, rfl, _, rfl, line1000 (Nat.le_of_ble_eq_true rfl), fun l2 nl2 => ?_⟩
      have s8 := Same.up (o := HO.lst [V.str (Txt.join (Str.ofString "\n") (allLines gn blk)), V.str (Txt.join (Str.ofString "\n") (allLines gn blk))]) nl2
      refine ⟨_, twoD (Txt.join (Str.ofString "\n") (allLines gn blk)), rfl, .inl ⟨two_dp upd_same, hT.h⟩, hT.s, hT.o, hT.p, hT.b, rfl, _, rfl, ?_⟩
      rw [decide_eq_true rfl]
      refine iteF ⟨?_, _, _, _, _, rfl⟩
      exact (hD3.kp (Kp.same (S := []) (Same.trans s4 (Same.trans s5 (Same.trans s6 (Same.trans s7 s8))))) (fun z => nomatch z) (fun z => nomatch z)).mono (by omega)
  · rintro σ H' ⟨hD', x2, x3, x4, x5, rfl⟩
    exact q H'
end
end G

set_option Elab.async false
set_option linter.all false
set_option maxRecDepth 100000
set_option maxHeartbeats 8000000
/-! The head of maybegone_k06_texts_of_programs: what the Hook looks at, what follows from it. Written by mkHF.py. -/
namespace G
open PySem PySem.Spec PyProof.Rows L2
def fn : List He.DefD := ([dDef "written_test" s_written_test, dDef "line_of" s_line_of, dDef "_block_lines" s__block_lines, dDef "program_text" s_program_text, dDef "_law_deck" s__law_deck, dDef "_law_draw" s__law_draw, dDef "_law_one" s__law_one, dDef "_law_kept" s__law_kept, dDef "_law_name" s__law_name, dDef "_law_word" s__law_word, dDef "_law_pool" s__law_pool, dDef "_law_any_test" s__law_any_test, dDef "_law_row" s__law_row, dDef "_law_rows" s__law_rows, dDef "_law_inner" s__law_inner, dDef "_law_free" s__law_free, dDef "_law_blocks" s__law_blocks, dDef "_law_test_text" s__law_test_text, dDef "_law_line" s__law_line, dDef "_law_lines" s__law_lines, dDef "_law_all_lines" s__law_all_lines, dDef "law" s_law] : List _)
def fa : List He.Fa := ([.glo "written_test", .glo "line_of", .glo "_block_lines", .glo "program_text", .glo "_law_deck", .glo "_law_draw", .glo "_law_one", .glo "_law_kept", .glo "_law_name", .glo "_law_word", .glo "_law_pool", .glo "_law_any_test", .glo "_law_row", .glo "_law_rows", .glo "_law_inner", .glo "_law_free", .glo "_law_blocks", .glo "_law_test_text", .glo "_law_line", .glo "_law_lines", .glo "_law_all_lines", .glo "law", .free "len", .free "abs", .free "int", .free "range", .free "tuple", .str "INDENT" "  ", .free "str", .free "isinstance"] : List _) ++ ([.free "repr"] : List _)
def ts : List He.Tab := []
def ex (K : PySem.W.Frag) : Bool := true
theorem facts {P : Program} {w : World} {K : PySem.W.Frag} {h : Heap} {mg : Str → Option Value} {f : Addr} (X : K.In h) (G : h.Ns mainGlobals mg) (hfa : mg ("law" : Str) = some (.ref f)) (cX : SaysS fa fn ts ex w K) :
    ∃ fd : FuncData, (∀ (s : Shared) (v : Value), BindsTo s fd ⟨[v], []⟩ [("_law_script", v)]) ∧ ∀ base : Heap, K.In base → base.Ns mainGlobals mg → FnOkG P w K mg base 16 f fd ["_law_script"] (spLawN K 63) := by
  have c := cX.t.d
  obtain ⟨dwritten_test, Dwritten_test⟩ := dfx (st := s_written_test) (ps := ["test"]) X G c 0 0 (fun _ _ _ _ _ _ us hl => match us, hl with | [_], _ => rfl) rfl rfl
  obtain ⟨dline_of, Dline_of⟩ := dfx (st := s_line_of) (ps := ["statement"]) X G c 1 1 (fun _ _ _ _ _ _ us hl => match us, hl with | [_], _ => rfl) rfl rfl
  obtain ⟨d_block_lines, D_block_lines⟩ := dfx (st := s__block_lines) (ps := ["block", "depth"]) X G c 2 2 (fun _ _ _ _ _ _ us hl => match us, hl with | [_, _], _ => rfl) rfl rfl
  obtain ⟨dprogram_text, Dprogram_text⟩ := dfx (st := s_program_text) (ps := ["program"]) X G c 3 3 (fun _ _ _ _ _ _ us hl => match us, hl with | [_], _ => rfl) rfl rfl
  obtain ⟨d_law_deck, D_law_deck⟩ := dfx (st := s__law_deck) (ps := ["_law_script"]) X G c 4 4 (fun _ _ _ _ _ _ us hl => match us, hl with | [_], _ => rfl) rfl rfl
  obtain ⟨d_law_draw, D_law_draw⟩ := dfx (st := s__law_draw) (ps := ["_law_deck_here", "_law_many"]) X G c 5 5 (fun _ _ _ _ _ _ us hl => match us, hl with | [_, _], _ => rfl) rfl rfl
  obtain ⟨d_law_one, D_law_one⟩ := dfx (st := s__law_one) (ps := ["_law_deck_here", "_law_items"]) X G c 6 6 (fun _ _ _ _ _ _ us hl => match us, hl with | [_, _], _ => rfl) rfl rfl
  obtain ⟨d_law_kept, D_law_kept⟩ := dfx (st := s__law_kept) (ps := []) X G c 7 7 (fun _ _ _ _ _ _ us hl => match us, hl with | [], _ => rfl) rfl rfl
  obtain ⟨d_law_name, D_law_name⟩ := dfx (st := s__law_name) (ps := ["_law_deck_here"]) X G c 8 8 (fun _ _ _ _ _ _ us hl => match us, hl with | [_], _ => rfl) rfl rfl
  obtain ⟨d_law_word, D_law_word⟩ := dfx (st := s__law_word) (ps := ["_law_deck_here"]) X G c 9 9 (fun _ _ _ _ _ _ us hl => match us, hl with | [_], _ => rfl) rfl rfl
  obtain ⟨d_law_pool, D_law_pool⟩ := dfx (st := s__law_pool) (ps := ["_law_deck_here"]) X G c 10 10 (fun _ _ _ _ _ _ us hl => match us, hl with | [_], _ => rfl) rfl rfl
  obtain ⟨d_law_any_test, D_law_any_test⟩ := dfx (st := s__law_any_test) (ps := ["_law_deck_here", "_law_pool_here"]) X G c 11 11 (fun _ _ _ _ _ _ us hl => match us, hl with | [_, _], _ => rfl) rfl rfl
  obtain ⟨d_law_row, D_law_row⟩ := dfx (st := s__law_row) (ps := ["_law_deck_here", "_law_pool_here"]) X G c 12 12 (fun _ _ _ _ _ _ us hl => match us, hl with | [_, _], _ => rfl) rfl rfl
  obtain ⟨d_law_rows, D_law_rows⟩ := dfx (st := s__law_rows) (ps := ["_law_deck_here", "_law_pool_here", "_law_left", "_law_depth", "_law_times"]) X G c 13 13 (fun _ _ _ _ _ _ us hl => match us, hl with | [_, _, _, _, _], _ => rfl) rfl rfl
  obtain ⟨d_law_inner, D_law_inner⟩ := dfx (st := s__law_inner) (ps := ["_law_deck_here", "_law_pool_here", "_law_left", "_law_depth", "_law_times"]) X G c 14 14 (fun _ _ _ _ _ _ us hl => match us, hl with | [_, _, _, _, _], _ => rfl) rfl rfl
  obtain ⟨d_law_free, D_law_free⟩ := dfx (st := s__law_free) (ps := ["_law_deck_here", "_law_most"]) X G c 15 15 (fun _ _ _ _ _ _ us hl => match us, hl with | [_, _], _ => rfl) rfl rfl
  obtain ⟨d_law_blocks, D_law_blocks⟩ := dfx (st := s__law_blocks) (ps := ["_law_row_here"]) X G c 16 16 (fun _ _ _ _ _ _ us hl => match us, hl with | [_], _ => rfl) rfl rfl
  obtain ⟨d_law_test_text, D_law_test_text⟩ := dfx (st := s__law_test_text) (ps := ["_law_test"]) X G c 17 17 (fun _ _ _ _ _ _ us hl => match us, hl with | [_], _ => rfl) rfl rfl
  obtain ⟨d_law_line, D_law_line⟩ := dfx (st := s__law_line) (ps := ["_law_row_here"]) X G c 18 18 (fun _ _ _ _ _ _ us hl => match us, hl with | [_], _ => rfl) rfl rfl
  obtain ⟨d_law_lines, D_law_lines⟩ := dfx (st := s__law_lines) (ps := ["_law_block", "_law_ahead"]) X G c 19 19 (fun _ _ _ _ _ _ us hl => match us, hl with | [_, _], _ => rfl) rfl rfl
  obtain ⟨d_law_all_lines, D_law_all_lines⟩ := dfx (st := s__law_all_lines) (ps := ["_law_program"]) X G c 20 20 (fun _ _ _ _ _ _ us hl => match us, hl with | [_], _ => rfl) rfl rfl
  obtain ⟨dlaw, Dlaw⟩ := dfx (st := s_law) (ps := ["_law_script"]) X G c 21 21 (fun _ _ _ _ _ _ us hl => match us, hl with | [_], _ => rfl) rfl rfl
  have TB : Bi mg := ⟨(He.free_ok X G (c.fact 22 rfl)), (He.free_ok X G (c.fact 23 rfl)), (He.free_ok X G (c.fact 24 rfl)), (He.free_ok X G (c.fact 25 rfl))⟩
  have e := hfa.symm.trans Dlaw.m
  cases e
  refine ⟨dlaw, fun s v => ?_, fun base _ _ => ?_⟩
  · obtain ⟨oc, od, kV, doc, pm, an, cdv, ct, osl, rfl, _⟩ := Dlaw.F.ex
    exact .of_eq rfl
  have G1 := ok_deck (k := 0) (P := P) (w := w) (base := base) D_law_deck.F TB
  have G2 := ok_draw (k := 0) (P := P) (w := w) (base := base) D_law_draw.F TB
  have G3 := ok_one D_law_one.F TB G2 D_law_draw.F.kp D_law_draw.b D_law_draw.m
  have G4 := ok_kept (k := 0) (P := P) (w := w) (mg := mg) (base := base) D_law_kept.F
  have G5 := ok_name D_law_name.F TB ⟨D_law_draw.F, D_law_draw.b, D_law_draw.m⟩ G2 ⟨D_law_one.F, D_law_one.b, D_law_one.m⟩ G3 ⟨D_law_kept.F, D_law_kept.b, D_law_kept.m⟩ G4
  have G6 := ok_word D_law_word.F TB ⟨D_law_draw.F, D_law_draw.b, D_law_draw.m⟩ G2 ⟨D_law_one.F, D_law_one.b, D_law_one.m⟩ G3
  have G7 := ok_pool D_law_pool.F TB ⟨D_law_draw.F, D_law_draw.b, D_law_draw.m⟩ G2 ⟨D_law_name.F, D_law_name.b, D_law_name.m⟩ G5 ⟨D_law_word.F, D_law_word.b, D_law_word.m⟩ G6
  have G8 := ok_any_test D_law_any_test.F TB ⟨D_law_draw.F, D_law_draw.b, D_law_draw.m⟩ G2 ⟨D_law_one.F, D_law_one.b, D_law_one.m⟩ G3
  have G9 := ok_row D_law_row.F ⟨D_law_one.F, D_law_one.b, D_law_one.m⟩ G3 ⟨D_law_any_test.F, D_law_any_test.b, D_law_any_test.m⟩ G8
  have G10 := rows_all TB (He.free_ok X G (c.fact 26 rfl)) ⟨D_law_draw.F, D_law_draw.b, D_law_draw.m⟩ G2 ⟨D_law_one.F, D_law_one.b, D_law_one.m⟩ G3 ⟨D_law_any_test.F, D_law_any_test.b, D_law_any_test.m⟩ G8 ⟨D_law_row.F, D_law_row.b, D_law_row.m⟩ G9 ⟨D_law_rows.F, D_law_rows.b, D_law_rows.m⟩ ⟨D_law_inner.F, D_law_inner.b, D_law_inner.m⟩
  have G11 := ok_free D_law_free.F ⟨D_law_pool.F, D_law_pool.b, D_law_pool.m⟩ G7 ⟨D_law_rows.F, D_law_rows.b, D_law_rows.m⟩ G10
  obtain ⟨tk, mI⟩ := (He.str_ok X G (c.fact 27 rfl))
  have T1 := ok_wt (P := P) (w := w) (base := base) Dwritten_test.F Dwritten_test.m Dwritten_test.b 3
  have T2 := ok_line Dline_of.F Dwritten_test.m Dwritten_test.F.kp Dwritten_test.b T1
  have T3 := ok_blks ⟨D_block_lines.F, D_block_lines.b, D_block_lines.m⟩ mI ⟨Dline_of.F, Dline_of.b, Dline_of.m⟩ T2
  have T4 := ok_pt Dprogram_text.F ⟨D_block_lines.F, D_block_lines.b, D_block_lines.m⟩ T3
  have L1 := ok_lt (P := P) (w := w) (base := base) D_law_test_text.F (He.free_ok X G (c.fact 28 rfl)) D_law_test_text.m D_law_test_text.b 3
  have L2 := ok_ll D_law_line.F (He.free_ok X G (c.fact 28 rfl)) D_law_test_text.m D_law_test_text.F.kp D_law_test_text.b L1
  have L3 := ok_lb (P := P) (w := w) (base := base) D_law_blocks.F TB (He.free_ok X G (c.fact 29 rfl)) (He.free_ok X G (c.fact 26 rfl))
  have L4 := ok_lsAll ⟨D_law_lines.F, D_law_lines.b, D_law_lines.m⟩ TB ⟨D_law_line.F, D_law_line.b, D_law_line.m⟩ L2 ⟨D_law_blocks.F, D_law_blocks.b, D_law_blocks.m⟩ L3
  have L5 := ok_all D_law_all_lines.F (He.free_ok X G (c.fact 28 rfl)) ⟨D_law_lines.F, D_law_lines.b, D_law_lines.m⟩ L4
  exact ok_law Dlaw.F (He.free_ok X G (c.fact 25 rfl)) (He.free_ok X G (c.fact 30 rfl)) ⟨D_law_deck.F, D_law_deck.b, D_law_deck.m⟩ G1 ⟨D_law_draw.F, D_law_draw.b, D_law_draw.m⟩ G2 ⟨D_law_free.F, D_law_free.b, D_law_free.m⟩ G11 ⟨D_law_all_lines.F, D_law_all_lines.b, D_law_all_lines.m⟩ L5 ⟨Dprogram_text.F, Dprogram_text.b, Dprogram_text.m⟩ T4
end G

set_option Elab.async false
set_option linter.all false
set_option maxRecDepth 100000
set_option maxHeartbeats 0
namespace G
open PySem PySem.Spec PyProof.Rows L2
abbrev RR : PySem.W.OpenRow := PySem.W.OpenLaw.row PySem.Challenge.rw_maybegone_k06_texts_of_programs
abbrev hk : PySem.W.Hook := hookS 5 fa fn ts ex
def ob (s : PySem.W.SharedT) : AlS := obsS 5 fa fn ts ex (HandSHeadRun.getT s)
theorem ob_eq (s : PySem.W.SharedT) : ob s = hk.obs s.abs := obsS_eq (HandSHeadRun.getT_eq s)
def loose : List PySem.Str := (["written_test", "line_of", "INDENT", "_block_lines", "program_text", "_law_deck", "_law_draw", "_law_one", "_law_kept", "_law_name", "_law_word", "_law_pool", "_law_any_test", "_law_row", "_law_rows", "_law_inner", "_law_free", "_law_blocks", "_law_test_text", "_law_line", "_law_lines", "_law_all_lines"] : List PySem.Str)
theorem run0 (w : World) : HandSHeadRun.RunEq RR (PySem.W.view RR.prog [25]) hk ob 30000 loose (w.withFollow "special-get-raises" false) := by
  intro os
  kernel_rfl
theorem run1 (w : World) : HandSHeadRun.RunEq RR (PySem.W.view RR.prog [25]) hk ob 30000 loose (w.withFollow "special-get-raises" true) := by
  intro os
  kernel_rfl
theorem run (w : World) : HandSHeadRun.RunEq RR (PySem.W.view RR.prog [25]) hk ob 30000 loose w :=
  PySem.W.byRow2 "special-get-raises" (P := fun w => HandSHeadRun.RunEq RR (PySem.W.view RR.prog [25]) hk ob 30000 loose w) run0 run1 w
end G
open PySem PySem.W PySem.Calls PyProof.Rows
set_option maxRecDepth 100000 in
set_option maxHeartbeats 0 in
theorem PySem.Challenge.cw_maybegone_k06_texts_of_programs_holds : PySem.Challenge.rw_maybegone_k06_texts_of_programs.Holds := by
  w_on; o_law
  refine HandSHeadRun.head_any (r := OpenLaw.row PySem.Challenge.rw_maybegone_k06_texts_of_programs) (q := view (OpenLaw.row PySem.Challenge.rw_maybegone_k06_texts_of_programs).prog [25]) (H := _root_.G.hk) (ob := _root_.G.ob) (M := 30000) (loose := _root_.G.loose) (d := HandSHeadRun.topDef (OpenLaw.row PySem.Challenge.rw_maybegone_k06_texts_of_programs).prog 25) (kwd := []) _root_.G.ob_eq
    (by kernel_rfl) (fun s => by kernel_rfl) _root_.G.run (by kernel_rfl) (by kernel_rfl) (by kernel_rfl) (by rfl) (by first | assumption | decide +kernel) (by decide +kernel) ⟨rfl, rfl, rfl, rfl, rfl, by decide +kernel⟩ ?hw ?hc
  case hw => w_witness2
  case hc =>
    refine _root_.G.walk_ofGE (l := PySem.Challenge.rw_maybegone_k06_texts_of_programs) (n := 63) (k := 16) (x := "_law_script") rfl (by decide) (by kernel_rfl) ⟨rfl, by decide, by decide⟩ ?F
    intro w mg fa h Y Gn hmg0
    obtain ⟨K, KX, c⟩ := Y
    have hmg : mg ("law" : PySem.Str) = some (.ref fa) := by
      have e : (HandSHeadRun.topDef (OpenLaw.row PySem.Challenge.rw_maybegone_k06_texts_of_programs).prog 25).name = ("law" : PySem.Str) := by kernel_rfl
      rw [← e]
      exact hmg0
    obtain ⟨fd, hb, hF⟩ := _root_.G.facts (P := (PySem.Challenge.rw_maybegone_k06_texts_of_programs).prog) (w := w) KX Gn hmg c
    exact ⟨K, fd, KX, hb, hF⟩
