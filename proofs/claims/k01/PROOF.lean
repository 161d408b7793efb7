import PyProof.Rows.All
import Wide.All
import OpenK.AllK
import Wide.FinOn
import HandS.ForMost
import HandS.Style
import HandS.IsInst
import HandS.More
import HandS.Evl
import HandS.Zip
import HandS.Walk
import HandS.SetFor
import HandS.Defaults
import HandS.ForExc
import HandS.CallSlots
import HandS.Sort
import KE.KDictCopyH
import HandS.SlotsOwn
import HandS.OwnIter
import HandS.IterNext
import HandS.ClsMeth
import HandS.Deep
import HandS.TupLe
import HandS.SortRule
import PyProof.P3Eq
import HandS.DictComp
import HandS.SetBool
import HandS.Strs
import HandS.SortInts
import HandS.Comp
import KE.GoesComp2
import KE.KExcSuper
import HandS.ExcInit
import HandS.Nested
import HandS.ExcField
import HandS.ExcIs
import HandS.TryMany
import HandS.TryOnly
import HandS.ExcOwn
import HandS.WordsExc
import KE.KExcIs
import HandS.FStr
import PyProof.Rows.RegStrFacts
import HandS.Conv
import HandS.Text
import HandS.Star
import PySem.Challenge.RW_coretower_k01_web_keeps_its_moves
import HandS.WordsDict
import HandS.TupAny
import KE.RegKSuper
set_option Elab.async false
set_option linter.all false
set_option maxRecDepth 100000
set_option maxHeartbeats 4000000
/-! ### small things over the layer: frames, loops, tests -/
namespace My
open PySem L2
section
variable {P : Program} {w : World} {K : PySem.W.Frag} {mg : Str → Option Value} {base : Heap}
/-- a def of the text, where it stands -/
structure Df (K : PySem.W.Frag) (mg : Str → Option Value) (x : Str) (st : Stmt) (ps : List Str) (f : Addr) (fd : FuncData) : Prop where
  F : Fun K x x st f fd
  g : mg x = some (.ref f)
  b : Binds K fd ps []
theorem cxK {CX : CXT} {N : List Str} {q : Str} {sc : Scope} {f : Addr} {cdv : Value} {A : Around} {outer : List Env} {s : Shared} {H : Hp} {E : XK} : (cxOf CX P w K mg base N q sc f cdv A outer s H E).K = K := rfl
theorem cxnK {CX : CXT} {N : List Str} {q : Str} {sc : Scope} {f : Addr} {cdv : Value} {A : Around} {outer : List Env} {s : Shared} {H : Hp} {E : XK} : (cxOf CX P w K mg base N q sc f cdv A outer s H E).nox.K = K := rfl
end
/-! ### frames -/
/-- what stood outside of S stands as it did -/
def Kp (S : List Addr) (H H' : Hp) : Prop := ∀ b o, b ∉ S → H b = some o → H' b = some o
theorem Kp.refl (S : List Addr) (H : Hp) : Kp S H H := fun _ _ _ h => h
theorem Kp.trans {S : List Addr} {H H1 H2 : Hp} (a : Kp S H H1) (b : Kp S H1 H2) : Kp S H H2 := fun c o hc h => b c o hc (a c o hc h)
theorem Kp.mono {S T : List Addr} {H H' : Hp} (a : Kp S H H') (h : ∀ x ∈ S, x ∈ T) : Kp T H H' := fun c o hc e => a c o (fun z => hc (h c z)) e
theorem Kp.of0 {T : List Addr} {H H' : Hp} (a : Kp [] H H') : Kp T H H' := a.mono fun x hx => nomatch hx
theorem Kp.new {S : List Addr} {H : Hp} {p : Addr} {o : HO} (h : H p = none) : Kp S H (upd H p o) := fun a u _ e => by
  rw [upd_ne (ne_of_none e h)]
  exact e
/-- a write to something that was not there at the beginning -/
theorem Kp.wr {S : List Addr} {H H' : Hp} {p : Addr} {o : HO} (a : Kp S H H') (h : H p = none) : Kp S H (upd H' p o) := fun b u hb e => by
  rw [upd_ne (ne_of_none e h)]
  exact a b u hb e
theorem Kp.put {S : List Addr} {H H' : Hp} {p : Addr} {o : HO} (a : Kp S H H') (h : p ∈ S) : Kp S H (upd H' p o) := fun b u hb e => by
  rw [upd_ne (fun z => hb (by rw [z]; exact h))]
  exact a b u hb e
theorem Kp.ls {S : List Addr} {K : PySem.W.Frag} {H H' : Hp} {a : Addr} {xs : List V} (k : Kp S H H') (ha : a ∉ S) (h : SqL K H a xs) : SqL K H' a xs := by
  rcases h with (h | ⟨o, h⟩) | h
  · exact .inl (.inl (k _ _ ha h))
  · exact .inl (.inr ⟨o, k _ _ ha h⟩)
  · exact .inr h
theorem Kp.tp {S : List Addr} {K : PySem.W.Frag} {H H' : Hp} {a : Addr} {xs : List V} (k : Kp S H H') (ha : a ∉ S) (h : SqT K H a xs) : SqT K H' a xs := by
  rcases h with (h | ⟨o, h⟩) | h
  · exact .inl (.inl (k _ _ ha h))
  · exact .inl (.inr ⟨o, k _ _ ha h⟩)
  · exact .inr h
theorem Kp.free {S : List Addr} {H H' : Hp} {p : Addr} (k : Kp S H H') (hp : H' p = none) (hs : ∀ a ∈ S, ∃ o, H' a = some o) : H p = none := by
  cases e : H p with
  | none => rfl
  | some o =>
    by_cases h : p ∈ S
    · obtain ⟨u, hu⟩ := hs p h
      rw [hp] at hu; cases hu
    · rw [k p o h e] at hp; cases hp
theorem Kp.free0 {H H' : Hp} {p : Addr} (k : Kp [] H H') (hp : H' p = none) : H p = none := k.free hp fun a h => nomatch h
theorem not1 {a b : Addr} (h : b ≠ a) : b ∉ [a] := fun z => h (List.mem_singleton.mp z)
theorem not0 {b : Addr} : b ∉ ([] : List Addr) := fun z => nomatch z
theorem sq_l {K : PySem.W.Frag} {H : Hp} {a : Addr} {xs : List V} (h : H a = some (.lst xs)) : SqL K H a xs := .inl (.inl h)
theorem sq_t {K : PySem.W.Frag} {H : Hp} {a : Addr} {xs : List V} (h : H a = some (.tup xs)) : SqT K H a xs := .inl (.inl h)
theorem small {n : Nat} (h : n ≤ 100000) : n ≤ sizeLine := Nat.le_trans h (by decide)
theorem smallL {n : Nat} (h : n ≤ 100000) : n < sizeLine := Nat.lt_of_le_of_lt h (by decide)
theorem ne_kind {H : Hp} {a b : Addr} {o u : HO} (h : H a = some o) (h' : H b = some u) (d : o ≠ u) : a ≠ b := ne_of h h' d
/-! ### subscripts -/
theorem atI_of {α : Type} {xs : List α} {i : Int} {v : α} (h0 : 0 ≤ i) (h : xs[i.toNat]? = some v) : atI xs i = some v := by
  have e := atI_nat h
  rwa [Int.toNat_of_nonneg h0] at e
theorem ixN_of {n : Nat} {i : Int} (h0 : 0 ≤ i) (h : i < n) : ixN n i = some i.toNat := by
  unfold ixN
  rw [if_pos h0, if_pos h]
theorem atI_ex {α : Type} {xs : List α} {i : Int} (h0 : 0 ≤ i) (h : i < xs.length) : ∃ v, v ∈ xs ∧ atI xs i = some v := by
  have hl : i.toNat < xs.length := by omega
  exact ⟨xs[i.toNat], List.getElem_mem hl, atI_of h0 (List.getElem?_eq_getElem hl)⟩
/-! ### isinstance -/
section
variable {K : PySem.W.Frag} {H : Hp} {Q : VK}
theorem isi_mk {x : V} {n m : String} {b : Bool} (h : TyOf K H x (.type n)) (k : kitB n m = some b) (q : Q (.bl b) H) : rIsi K [x, .ty m] H Q := ⟨x, _, _, _, b, rfl, .ty m, .base h, kit_ty k, q⟩
theorem isi_int_str {i : Int} (q : Q (.bl false) H) : rIsi K [.int i, .ty "str"] H Q := isi_mk (.int i) (by decide +kernel) q
theorem isi_str_str {i : Str} (q : Q (.bl true) H) : rIsi K [.str i, .ty "str"] H Q := isi_mk (.str i) (by decide +kernel) q
theorem isi_int_int {i : Int} (q : Q (.bl true) H) : rIsi K [.int i, .ty "int"] H Q := isi_mk (.int i) (by decide +kernel) q
theorem isi_int_bool {i : Int} (q : Q (.bl false) H) : rIsi K [.int i, .ty "bool"] H Q := isi_mk (.int i) (by decide +kernel) q
theorem isi_bl_bool {i : Bool} (q : Q (.bl true) H) : rIsi K [.bl i, .ty "bool"] H Q := isi_mk (.bl i) (by decide +kernel) q
end
theorem sc_ii {i j : Int} : scal (.int i) (.int j) = true := rfl
theorem sc_ss {i j : Str} : scal (.str i) (.str j) = true := rfl
theorem sc_bb {i j : Bool} : scal (.bl i) (.bl j) = true := rfl
theorem sc_ni {j : Int} : scal .non (.int j) = true := rfl
theorem sc_in {j : Int} : scal (.int j) .non = true := rfl
theorem sc_is {i : Int} {j : Str} : scal (.int i) (.str j) = true := rfl
theorem sc_si {i : Int} {j : Str} : scal (.str j) (.int i) = true := rfl
theorem sc_nn : scal .non .non = true := rfl
/-! ### loops -/
section
variable {K : PySem.W.Frag} {g : TG} {tb : TS} {D : Ends} {σ : St} {H : Hp}
theorem forL {a : Addr} {xs : List V} {i : Nat} (Pv : Nat → L2.St → Hp → Prop) (hσ : σ[i]? = some (some (.ref a))) (hS : SqL K H a xs) (h0 : Pv 0 σ H) (hl : ∀ j σ H, j ≤ xs.length → Pv j σ H → SqL K H a xs)
    (hs : ∀ j x σ H, xs[j]? = some x → Pv j σ H → g x σ H fun σ2 H2 => tb { D with nx := Pv (j + 1), ct := Pv (j + 1), bk := D.nx } σ2 H2) (hd : ∀ σ H, Pv xs.length σ H → D.nx σ H) : tFor (iList K (tVar i)) g tb D σ H :=
  ⟨_, hσ, a, rfl, ⟨xs, hS⟩, for_list Pv h0 hl hs hd⟩
theorem forT {a : Addr} {xs : List V} {i : Nat} (Pv : Nat → L2.St → Hp → Prop) (hσ : σ[i]? = some (some (.ref a))) (hS : SqT K H a xs) (h0 : Pv 0 σ H) (hl : ∀ j σ H, j ≤ xs.length → Pv j σ H → SqT K H a xs)
    (hs : ∀ j x σ H, xs[j]? = some x → Pv j σ H → g x σ H fun σ2 H2 => tb { D with nx := Pv (j + 1), ct := Pv (j + 1), bk := D.nx } σ2 H2) (hd : ∀ σ H, Pv xs.length σ H → D.nx σ H) : tFor (iTup K (tVar i)) g tb D σ H :=
  ⟨_, hσ, a, rfl, ⟨xs, hS⟩, for_tup Pv h0 hl hs hd⟩
/-- behind the reckoning of the bound: range(m) -/
theorem forR {ta : TA} {Qx : Hp → Int → Prop} (h : ta σ H fun vs H1 => ∃ m : Int, vs = [.int m] ∧ -(2 ^ 62) ≤ m ∧ m < 2 ^ 62 ∧ ∃ Pv : Nat → L2.St → Hp → Prop, Pv 0 σ H1 ∧
    (∀ j σ H, j < m.toNat → Pv j σ H → g (.int (0 + j)) σ H fun σ2 H2 => tb { D with nx := Pv (j + 1), ct := Pv (j + 1), bk := D.nx } σ2 H2) ∧ (∀ σ H, Pv m.toNat σ H → D.nx σ H))
    (mono : ∀ Q Q' : List V → Hp → Prop, (∀ vs H, Q vs H → Q' vs H) → ta σ H Q → ta σ H Q') : tFor (iRng1 ta) g tb D σ H := by
  refine mono _ _ ?_ h
  rintro vs H1 ⟨m, e, h1, h2, Pv, a, b, c⟩
  exact ⟨m, e, h1, h2, for_range Pv a b c⟩
end
/-! ### dicts -/
section
variable {κ : Type} [DecidableEq κ]
theorem keys_putK (kvs : List (κ × V)) (k : κ) (v : V) (h : (kvs.map (·.1)).Nodup) : ((putK kvs k v).map (·.1)).Nodup := by
  cases e : valV kvs k with
  | none => exact nd_putK v h e
  | some y =>
    have ha : (kvs.any fun kv => decide (kv.1 = k)) = true := by
      unfold valV at e
      cases q : kvs.find? fun kv => decide (kv.1 = k) with
      | none => rw [q] at e; cases e
      | some p => exact List.any_eq_true.mpr ⟨p, List.mem_of_find?_eq_some q, by simpa using List.find?_some q⟩
    unfold putK
    rw [if_pos ha, List.map_map]
    have e2 : ((fun kv : κ × V => kv.1) ∘ fun kv : κ × V => if kv.1 = k then (kv.1, v) else kv) = fun kv => kv.1 := by
      funext p
      show (if p.1 = k then (p.1, v) else p).1 = p.1
      split <;> rfl
    rw [e2]
    exact h
theorem mem_putK {kvs : List (κ × V)} {k : κ} {v : V} {p : κ × V} (h : p ∈ putK kvs k v) : p ∈ kvs ∨ p = (k, v) := by
  unfold putK at h
  split at h
  · obtain ⟨q, hq, e⟩ := List.mem_map.mp h
    split at e
    · rename_i hk
      exact .inr (by rw [← e, hk])
    · exact .inl (by rw [← e]; exact hq)
  · rcases List.mem_append.mp h with h | h
    · exact .inl h
    · exact .inr (List.mem_singleton.mp h)
theorem valV_mem {kvs : List (κ × V)} {k : κ} {v : V} (h : (kvs.map (·.1)).Nodup) (hm : (k, v) ∈ kvs) : valV kvs k = some v := by
  induction kvs with
  | nil => nomatch hm
  | cons p r ih =>
    rw [List.map_cons, List.nodup_cons] at h
    by_cases e : p.1 = k
    · rw [valV_pos e]
      rcases List.mem_cons.mp hm with z | z
      · rw [← z]
      · exact absurd (List.mem_map.mpr ⟨_, z, rfl⟩) (by rw [← e]; exact h.1)
    · rw [valV_neg e]
      rcases List.mem_cons.mp hm with z | z
      · exact absurd (by rw [← z]) e
      · exact ih h.2 z
end
end My

set_option Elab.async false
set_option linter.all false
set_option maxRecDepth 100000
set_option maxHeartbeats 4000000
namespace My
open PySem L2
/-! ### data that stands in tracked tuples and lists -/
mutual
inductive Dq (H : Hp) : V → PyData → Prop
  | non : Dq H .non .none
  | bl (b : Bool) : Dq H (.bl b) (.bool b)
  | int (i : Int) : Dq H (.int i) (.int i)
  | str (x : Str) : Dq H (.str x) (.str x)
  | lst {a : Addr} {xs : List V} {ds : List PyData} : H a = some (.lst xs) → DqAll H xs ds → Dq H (.ref a) (.list ds)
  | tup {a : Addr} {xs : List V} {ds : List PyData} : H a = some (.tup xs) → DqAll H xs ds → Dq H (.ref a) (.tuple ds)
inductive DqAll (H : Hp) : List V → List PyData → Prop
  | nil : DqAll H [] []
  | cons {v : V} {vs : List V} {d : PyData} {ds : List PyData} : Dq H v d → DqAll H vs ds → DqAll H (v :: vs) (d :: ds)
end
mutual
theorem Dq.kp {H H' : Hp} (k : Kp [] H H') : ∀ {d : PyData} {v : V}, Dq H v d → Dq H' v d
  | _, _, .non => .non
  | _, _, .bl b => .bl b
  | _, _, .int i => .int i
  | _, _, .str x => .str x
  | _, _, .lst e h => .lst (k _ _ not0 e) (DqAll.kp k h)
  | _, _, .tup e h => .tup (k _ _ not0 e) (DqAll.kp k h)
theorem DqAll.kp {H H' : Hp} (k : Kp [] H H') : ∀ {ds : List PyData} {vs : List V}, DqAll H vs ds → DqAll H' vs ds
  | _, _, .nil => .nil
  | _, _, .cons h t => .cons (Dq.kp k h) (DqAll.kp k t)
end
mutual
theorem Dq.dp {K : PySem.W.Frag} {H : Hp} : ∀ {d : PyData} {v : V}, Dq H v d → Dp K H v d
  | _, _, .non => .non
  | _, _, .bl b => .bl b
  | _, _, .int i => .int i
  | _, _, .str x => .str x
  | _, _, .lst e h => .lst (sq_l e) (DqAll.dp h)
  | _, _, .tup e h => .tup (sq_t e) (DqAll.dp h)
theorem DqAll.dp {K : PySem.W.Frag} {H : Hp} : ∀ {ds : List PyData} {vs : List V}, DqAll H vs ds → DpAll K H vs ds
  | _, _, .nil => .nil
  | _, _, .cons h t => .cons (Dq.dp h) (DqAll.dp t)
end
theorem DqAll.len {H : Hp} : ∀ {ds : List PyData} {vs : List V}, DqAll H vs ds → vs.length = ds.length
  | _, _, .nil => rfl
  | _, _, .cons h t => by rw [List.length_cons, List.length_cons, t.len]
theorem DqAll.get {H : Hp} : ∀ {ds : List PyData} {vs : List V}, DqAll H vs ds → ∀ {i : Nat} {v : V}, vs[i]? = some v → ∃ d, ds[i]? = some d ∧ Dq H v d
  | _, _, .nil, _, _, e => nomatch e
  | _, _, .cons h t, 0, _, e => by cases e; exact ⟨_, rfl, h⟩
  | _, _, .cons h t, i + 1, _, e => t.get (i := i) e
/-- its class -/
def tyD : PyData → String
  | .none => "NoneType"
  | .bool _ => "bool"
  | .int _ => "int"
  | .str _ => "str"
  | .list _ => "list"
  | .tuple _ => "tuple"
  | _ => "object"
theorem Dq.ty {K : PySem.W.Frag} {H : Hp} {v : V} {d : PyData} (h : Dq H v d) : TyOf K H v (.type (tyD d)) := by
  cases h with
  | non => exact .non
  | bl b => exact .bl b
  | int i => exact .int i
  | str x => exact .str x
  | lst e h => exact .lst e
  | tup e h => exact .tup e
def six (d : PyData) : Prop := match d with
  | .none | .bool _ | .int _ | .str _ | .list _ | .tuple _ => True
  | _ => False
theorem Dq.six {H : Hp} {v : V} {d : PyData} (h : Dq H v d) : six d := by
  cases h <;> exact True.intro
def isStrD : PyData → Bool | .str _ => true | _ => false
def isTupD : PyData → Bool | .tuple _ => true | _ => false
def isLstD : PyData → Bool | .list _ => true | _ => false
def isIntD : PyData → Bool | .int _ | .bool _ => true | _ => false
def isBoolD : PyData → Bool | .bool _ => true | _ => false
section
variable {K : PySem.W.Frag} {H : Hp} {Q : VK} {v : V} {d : PyData}
theorem isi_D (h : Dq H v d) {m : String} {b : Bool} (k : kitB (tyD d) m = some b) (q : Q (.bl b) H) : rIsi K [v, .ty m] H Q := isi_mk h.ty k q
theorem isi_Dstr (h : Dq H v d) (q : Q (.bl (isStrD d)) H) : rIsi K [v, .ty "str"] H Q := isi_D h (by cases h <;> simp only [tyD, isStrD, isTupD, isLstD, isIntD, isBoolD] <;> decide +kernel) q
theorem isi_Dtup (h : Dq H v d) (q : Q (.bl (isTupD d)) H) : rIsi K [v, .ty "tuple"] H Q := isi_D h (by cases h <;> simp only [tyD, isStrD, isTupD, isLstD, isIntD, isBoolD] <;> decide +kernel) q
theorem isi_Dlst (h : Dq H v d) (q : Q (.bl (isLstD d)) H) : rIsi K [v, .ty "list"] H Q := isi_D h (by cases h <;> simp only [tyD, isStrD, isTupD, isLstD, isIntD, isBoolD] <;> decide +kernel) q
theorem isi_Dint (h : Dq H v d) (q : Q (.bl (isIntD d)) H) : rIsi K [v, .ty "int"] H Q := isi_D h (by cases h <;> simp only [tyD, isStrD, isTupD, isLstD, isIntD, isBoolD] <;> decide +kernel) q
theorem isi_Dbool (h : Dq H v d) (q : Q (.bl (isBoolD d)) H) : rIsi K [v, .ty "bool"] H Q := isi_D h (by cases h <;> simp only [tyD, isStrD, isTupD, isLstD, isIntD, isBoolD] <;> decide +kernel) q
end
/-! ### xs.remove(text) -/
def eqs (z : Str) (v : Value) : Bool := match v with
  | .str y _ => y == z
  | _ => false
theorem str_beq' (w z : Str) : (w == z) = (w.cps.toList == z.cps.toList) := by
  rw [Bool.eq_iff_iff, beq_iff_eq, beq_iff_eq]
  constructor
  · rintro rfl; rfl
  · intro h
    obtain ⟨a⟩ := w
    obtain ⟨b⟩ := z
    obtain ⟨a⟩ := a
    obtain ⟨b⟩ := b
    have h' : a = b := h
    rw [h']
def rRemS : V → List V → Hp → VK → Prop := fun x xs H Q => ∃ (l : Addr) (zs : List Str) (z : Str) (j : Nat), x = .ref l ∧ xs = [.str z] ∧ H l = some (.lst (zs.map V.str)) ∧ zs[j]? = some z ∧ (∀ m : Nat, m < j → zs[m]? ≠ some z) ∧ Q .non (upd H l (.lst ((zs.eraseIdx j).map V.str)))
theorem vals_str : ∀ {zs : List Str} {us : List Value}, Vals (zs.map V.str) us → ∀ {i : Nat} {u : Value}, us[i]? = some u → ∃ y t, u = .str y t ∧ zs[i]? = some y
  | [], _, r, _, _, e => by cases r; cases e
  | z :: zs, us, r, i, u, e => by
    rw [List.map_cons] at r
    cases r with
    | cons r0 rt =>
      match i, e with
      | 0, e =>
        cases e
        obtain ⟨t, rfl⟩ := r0
        exact ⟨z, t, rfl, rfl⟩
      | i + 1, e => exact vals_str rt (i := i) e
theorem erase_mapS : ∀ (l : List Str) (j : Nat), (l.map V.str).eraseIdx j = (l.eraseIdx j).map V.str
  | [], j => by simp
  | _ :: _, 0 => by simp
  | _ :: r, j + 1 => by simp [erase_mapS r j]
theorem eqs_ok (w z : Str) (tw t : Tok) : MeetsSeq.EqGives (.str w tw) (.str z t) (eqs z (.str w tw)) := by
  have e : eqs z (.str w tw) = (w.cps.toList == z.cps.toList) := (str_beq' w z)
  rw [e]
  exact SeqRoads2.EqGives.str w z tw t
theorem mt_removeS {X : Cx} : MtM X "list.remove" rRemS := by
  intro pins s σ H x xs v us Q I rx rxs h
  obtain ⟨l, zs, z, j, rfl, rfl, hH, hj, hno, q⟩ := h
  cases rx
  obtain ⟨u, rfl, ru⟩ := rxs.one
  obtain ⟨t, rfl⟩ := ru
  obtain ⟨hz, its, n, r, hl, e⟩ := I.lstM hH
  rw [List.length_map] at hl hz
  have hjn : j < zs.length := (List.getElem?_eq_some_iff.mp hj).1
  have hjl : j < its.toArray.size := by rw [List.size_toArray]; omega
  have each : ∀ y, y ∈ its.toArray → MeetsSeq.EqGives y (.str z t) (eqs z y) := fun y hy => by
    obtain ⟨i, hi, e1⟩ := List.mem_iff_getElem.mp (show y ∈ its by simpa using hy)
    obtain ⟨w, tw, rfl, _⟩ := vals_str r (i := i) (by rw [List.getElem?_eq_getElem hi, e1])
    exact eqs_ok w z tw t
  have at_ : ∀ m (hm : m < its.toArray.size), ∃ t', its.toArray[m] = .str (zs[m]'(by rw [List.size_toArray] at hm; omega)) t' := fun m hm => by
    have hm' : m < its.length := by simpa using hm
    obtain ⟨w, tw, ew, ez⟩ := vals_str r (i := m) (List.getElem?_eq_getElem hm')
    have hmz : m < zs.length := by omega
    rw [List.getElem?_eq_getElem hmz] at ez
    exact ⟨tw, by rw [Option.some.inj ez]; simpa using ew⟩
  refine call_meets PySem.F.slot_list_remove ⟨_, e, rfl⟩ PySem.F.entry_list_remove (PySem.F.args_list_remove_2 _ _) (MeetsSeq.list_remove l its.toArray n (.str z t) (eqs z) each j hjl ?_ ?_ (by rw [List.size_toArray]; omega)) ⟨e, ?_⟩
  · obtain ⟨t', et⟩ := at_ j hjl
    rw [List.getElem?_eq_getElem hjn] at hj
    rw [et, Option.some.inj hj]
    exact beq_self_eq_true z
  · intro m hm hmj
    obtain ⟨t', et⟩ := at_ m hm
    rw [et]
    refine beq_eq_false_iff_ne.mpr fun e2 => hno m hmj ?_
    rw [← e2]
    exact List.getElem?_eq_getElem _
  · have rr := r.eraseIdx j
    rw [erase_mapS] at rr
    refine ⟨.non, _, I.lset (its' := its.eraseIdx j) (t' := s.toks) hH e ?_ rr ?_, rfl, q⟩
    · show its.toArray.eraseIdxIfInBounds j = (its.eraseIdx j).toArray
      rw [List.eraseIdxIfInBounds_toArray]
    · have := List.length_eraseIdx_le zs j
      rw [List.length_map]
      omega
/-! ### repr of data, nothing being shown -/
def rReprD (K : PySem.W.Frag) : List V → Hp → VK → Prop := fun xs H Q => ∃ (a : Addr) (d : PyData), xs = [.ref a] ∧ Dp K H (.ref a) d ∧ d.showable = true ∧ d.hasDict = false ∧ d.depth ≤ 60 ∧ d.shown.length ≤ sizeLine ∧ Q (.str d.shown) H
theorem call_reprD {X : Cx} (gd : X.A.guards = some [] ∧ X.A.units + 64 < cLine) : CallR X (.builtin "repr") (rReprD X.K) := by
  intro pins s σ H xs us Q I r h
  obtain ⟨a, d, rfl, hd, hs, hn, hp, hz, q⟩ := h
  obtain ⟨u, rfl, ru⟩ := vals1 r
  obtain ⟨as, rd⟩ := Dp.reads I d (.ref a) u hd ru
  cases (show u = Value.ref a from ru)
  refine repr_of_reads' rd hs (PyData.noDict_hsm hn) gd.1 (by omega) (fun _ _ e => e) (fun h' t tk hk => ⟨.str _, H, I.kept (t' := tk) hk, ⟨_, rfl⟩, q⟩) hz
/-! ### an own class made where what is raised is wished for at the slots -/
def tMakeS (C : Addr) (sp : Sp) (dvs : List V) (E : L2.St → XK) (t : TA) : TE := fun σ H Q => t σ H fun vs H1 => ∀ o d, H1 o = none → H1 d = none → d ≠ o → sp (.ref o :: (vs ++ dvs)) (upd (upd H1 d (.own o)) o (.ins C d [])) (fun v H2 => v = .non ∧ Q (.ref o) H2) (E σ)
section
variable {X : Cx} {CX : CXT} {k : Nat} {f C : Addr} {fd : FuncData} {ps : List Str} {sp : Sp} {dvs : List V} {ds : List Value} {E : L2.St → XK} {x : Str} {p pos : Pos} {e : Expr} {es : List Expr} {t : TA}
theorem pe_makeS (M : Mk X.K C f) (F : FnOk X.prog X.w X.K X.mg X.base CX k f fd ps sp) (hr : Room (k + 1) X.A) (hg : Gl X x) (hm : X.mg x = some (.ref C)) (hb : Binds X.K fd ps ds) (hd : Vals dvs ds) (hx : ∀ σ, PassesAt CX X σ (E σ)) (ha : PA X (e :: es) t)
    (hdb : (x == ("__debug__" : Str)) = false := by decide) (he : starEach (e :: es) X.env = (false, eval e X.env) :: starEach es X.env := by rfl) (hpl : (backTo pos (starEach es X.env)).any (·.1) = false := by rfl) :
    PE X (.Call (.Name x p) (e :: es) [] pos) (tMakeS C sp dvs E t) := by
  refine ⟨fun pins s σ H Q I h => wpAny_Call_Name_kw (ld_glob I hg hm ?_ hdb)⟩
  refine PySem.W.callWith_K (h₀ := X.base) I.ok.mod.kin M.kp (thn (ha.run pos pins s σ H _ I h) fun us s1 ⟨vs, H1, I1, r, q⟩ => ⟨I1.kIn, ?_⟩) he hpl
  have g0 : H1 (s1.heap.objs.size + 1) = none := I1.hok.fresh (Nat.le_succ _)
  have g1 : H1 s1.heap.objs.size = none := I1.hok.fresh (Nat.le_refl _)
  have todo := q _ _ g0 g1 (Nat.ne_of_lt (Nat.lt_succ_self _))
  have J := Inv.made (C := C) I1
  have rr : Vals (V.ref (s1.heap.objs.size + 1) :: (vs ++ dvs)) (Value.ref (s1.heap.objs.size + 1) :: (us ++ ds)) := .cons rfl (r.append hd)
  have many : (Value.ref (s1.heap.objs.size + 1) :: us ++ ds).length = ps.length := (rr.length.symm.trans (F.len _ _ _ _ todo))
  refine wpAny_call (make_map (f := f) I1.kIn M.makes M.init (beq_iff_eq.mp M.fn) (codeAny_mono (F.run _ X.stack _ _ ⟨_, []⟩ _ _ _ (E σ) (hr.make C us []) (J.env0.make C us []) (hb _ (Value.ref (s1.heap.objs.size + 1) :: us) J.kIn many) rr todo) fun
    | .error er, s2, z => hx σ pins _ _ er s2 J z
    | .ok (.ret u), s2, z => ?_
    | .ok .next, _, z => False.elim z
    | .ok .brk, _, z => False.elim z
    | .ok .cont, _, z => False.elim z))
  obtain ⟨v, H3, J3, rv, rfl, z3⟩ := J.after z
  exact ⟨rv, .ref (s1.heap.objs.size + 1), H3, J3, rfl, z3⟩
end
end My

set_option Elab.async false
set_option linter.all false
set_option maxRecDepth 100000
set_option maxHeartbeats 4000000
/-! ### d.values() as a value, list(d.values()) -/
namespace My
open PySem L2 PySem.W
/-- at q: the view of the values of the dict at d -/
def viewO (q d : Addr) : HO := .ext fun h => h.get? q = some ({ cls := .type "dict_values", data := .fields #[.ref d] } : Obj)
theorem view_ok {P : Program} {w : World} {H : Hp} {h : Heap} {q d : Addr} (e : h.get? q = some ({ cls := .type "dict_values", data := .fields #[.ref d] } : Obj)) : ObjOk P w H h q (viewO q d) := ⟨e, ⟨_, e⟩, fun _ _ z k => k _ z⟩
theorem view_at {P : Program} {w : World} {H : Hp} {h : Heap} {q d : Addr} (ok : HOk P w H h) (e : H q = some (viewO q d)) : h.get? q = some ({ cls := .type "dict_values", data := .fields #[.ref d] } : Obj) := by
  have x : ObjOk P w H h q (.ext fun h => h.get? q = some ({ cls := .type "dict_values", data := .fields #[.ref d] } : Obj)) := ok q _ e
  exact x.1
def tVals (td : TE) : TE := fun σ H Q => td σ H fun x H1 => ∃ (a : Addr) (kvs : List (Key × V)), x = .ref a ∧ H1 a = some (.dK kvs) ∧ ∀ q, H1 q = none → Q (.ref q) (upd H1 q (viewO q a))
def rListV : List V → Hp → VK → Prop := fun xs H Q => ∃ (q a : Addr) (kvs : List (Key × V)), xs = [.ref q] ∧ H q = some (viewO q a) ∧ H a = some (.dK kvs) ∧ ∀ p, H p = none → Q (.ref p) (upd H p (.lst (kvs.map fun kv => kv.2)))
theorem vals_of : ∀ {kvs : List (Key × V)} {vs : List (Key × Value)} {us : List Value}, KV kvs vs → us.length = vs.length → (∀ (j : Nat) (v : Value), us[j]? = some v → ∃ k, vs[j]? = some (k, v)) → Vals (kvs.map fun kv => kv.2) us
  | [], [], [], _, _, _ => .nil
  | p :: r, q :: vs, u :: us, h, hl, e => by
    cases h with
    | cons h1 h2 =>
      obtain ⟨k, e1⟩ := e 0 u rfl
      have e1' : q = (k, u) := Option.some.inj e1
      subst e1'
      exact .cons h1.2 (vals_of h2 (by simpa using hl) fun j v z => e (j + 1) v z)
  | [], _ :: _, _, h, _, _ => by cases h
  | _ :: _, [], _, h, _, _ => by cases h
  | [], [], _ :: _, _, hl, _ => by cases hl
  | _ :: _, _ :: _, [], _, hl, _ => by cases hl
section
variable {X : Cx} {o : Expr} {td : TE} {apos cpos : Pos}
theorem pe_values (he : PE X o td) (hbase : attributeBase o "values" X.env (eval o X.env) = eval o X.env := by rfl) (hline : (apos.endLine == cpos.line) = true := by rfl) : PE X (.Call (.Attribute o "values" apos) [] [] cpos) (tVals td) := by
  refine ⟨fun pins s σ H Q I h => ?_⟩
  refine wpAny_Call_method (T := "dict") (id := "dict.values") hbase rfl hline F.plainAttrs_dict F.slot_dict_values F.type_dict_values (thn (he.run pins s σ H _ I h) fun u s1 ⟨x, H1, I1, rx, d, kvs, ex, hd, q⟩ => ?_)
  subst ex
  cases (show u = Value.ref d from rx)
  obtain ⟨_, hs, vs, rel, dof⟩ := dk_of I1.hok hd
  refine ⟨dof.typeIs, dof.mapOf.noDict, ?_⟩
  have got := Heap.get?_push_size s1.heap (o := ({ cls := .type "dict_values", data := .fields #[.ref d] } : Obj)) rfl
  have J : Inv X pins σ (upd H1 s1.heap.objs.size (viewO s1.heap.objs.size d)) { s1 with heap := s1.heap.push { cls := .type "dict_values", data := .fields #[.ref d] } } := I1.laid (t' := s1.toks) (fun b ob q => Heap.get?_push_of_some _ q) (Nat.le_refl _) (view_ok got)
  exact method_meetsIn F.slot_dict_values F.entry_dict_values rfl (PySem.evalArgs_none ⟨rfl, dof.typeIs, F.args_dict_values_1 _, _, meets_dict_values (mixKind X.prog X.w) d hs, ⟨vs, dof⟩, ⟨.ref s1.heap.objs.size, _, J, rfl, q _ (I1.hok.fresh (Nat.le_refl _))⟩⟩)
theorem call_listV (hcalm : X.calm = true) : CallR X (.type "list") rListV := by
  intro pins s σ H xs us Q I r h
  obtain ⟨v, a, kvs, rfl, hv, ha, q⟩ := h
  obtain ⟨u, rfl, rx⟩ := vals1 r
  cases (show u = Value.ref v from rx)
  obtain ⟨z, hs, vs, rel, dof⟩ := dk_of I.hok ha
  obtain ⟨es, ep, raw, sz, each⟩ := dof.raw
  have hl := KV.length rel
  refine PySem.W.kdl_call (KdlSrc.rawValues (r := v) (d := a) (es := es) (ep := ep)) (I.ok.hd hcalm) ⟨⟨_, view_at I.hok hv, rfl, rfl⟩, raw⟩ (by omega) fun h' tk acc c' hk hD hacc => ?_
  have av : Vals (kvs.map fun kv => kv.2) acc.toList := vals_of rel (by rw [Array.length_toList, hacc.1, sz]) fun j u ej => by
    rw [Array.getElem?_toList] at ej
    obtain ⟨hi, rfl⟩ := hacc.2 j u ej
    have hj : j < vs.length := by omega
    have e1 : vs[j]? = some (vs[j].1, vs[j].2) := List.getElem?_eq_getElem hj
    have e2 := (each j hi _ _ e1).2
    exact ⟨vs[j].1, by rw [e1, e2]⟩
  refine ⟨.ref s.heap.objs.size, upd H s.heap.objs.size (.lst (kvs.map fun kv => kv.2)), I.laid (t' := tk) hk (Nat.le_refl _) ?_, rfl, q _ (I.hok.fresh (Nat.le_refl _))⟩
  exact (show ObjOk X.prog X.w _ _ _ (.lst _) from ⟨by rw [List.length_map]; exact z, acc.toList, c', av, by rw [Array.toArray_toList]; exact hD⟩)
end
end My

set_option Elab.async false
set_option linter.all false
set_option maxRecDepth 100000
set_option maxHeartbeats 4000000
/-! ### operators, in, len, list of instances of an own class that define them -/
namespace My
open PySem PySem.Spec PyProof.Rows L2
section
variable {X : Cx} {CX : CXT} {pins : List (Addr × Obj)} {σ : L2.St} {H : Hp} {s : Shared} {C g a : Addr} {fd : FuncData} {ps : List Str} {sp : Sp} {E : XK} {k : Nat} {A1 : Around}
theorem inst_of {dx : Addr} {fs : List (Str × V)} (I : Inv X pins σ H s) (ha : H a = some (.ins C dx fs)) : ∃ ox od, PySem.W.InstAt s.heap a ox C (some od) := by
  obtain ⟨mA, J, _⟩ := ins_get I.hok ha
  obtain ⟨od, J', _⟩ := J.look
  exact ⟨_, od, J'⟩
theorem env_under (sb : Sub X k A1) (I : Inv X pins σ H s) : Env0 X.prog X.w X.K X.mg X.base A1 X.stack s H := by
  obtain ⟨f1, f2, f3, f4, f5, f6, f7, f8⟩ := I.env0
  exact ⟨(sb.fr).trans f1, f2, f3, f4, f5, f6, f7, f8⟩
/-- a def of the class runs somewhere below the body -/
theorem run_under {Q : VK} {us : List Value} {vs : List V} (F : FnOk X.prog X.w X.K X.mg X.base CX k g fd ps sp) (sb : Sub X k A1) (hb : Binds X.K fd ps []) (hx : Passes CX X E) (I : Inv X pins σ H s) (r : Vals vs us) (h : sp vs H Q E) :
    wpAny (model X.prog X.w) A1 (call (.ref g) us) (EP X pins σ Q) X.xe s := by
  have len := F.len _ _ _ _ h
  have bnd := hb s us I.kIn (by rw [List.append_nil, ← r.length]; exact len)
  rw [List.append_nil] at bnd
  refine wpAny_call (codeAny_mono (F.run A1 X.stack s H ⟨us, []⟩ us vs Q E sb.room (env_under sb I) bnd r h) ?_)
  rintro (e | fl) s' z
  · exact hx pins σ H s e s' I z
  · cases fl <;> first | exact I.after z | exact z.elim
/-- x op y, both instances of the class at C -/
def rBinO (C : Addr) (sp : Sp) (E : XK) : R2 := fun x y H Q => ∃ (a dx : Addr) (fs : List (Str × V)) (b dy : Addr) (gs : List (Str × V)), x = .ref a ∧ y = .ref b ∧ H a = some (.ins C dx fs) ∧ H b = some (.ins C dy gs) ∧ sp [.ref a, .ref b] H Q E
/-- what stands of an operator's def -/
structure BinC (K : PySem.W.Frag) (C g : Addr) (op : Operator) : Prop where
  one : PySem.W.selfFirst K C = true
  at_ : PySem.W.findIn K (.ref C) (PySem.dunder op.info.2) = some (some (.ref g))
  fn : PySem.W.isFn K (.ref g) = true
theorem sub_here (hr : Room k X.A) : Sub X k X.A := ⟨hr, rfl⟩
theorem op_binO {op : Operator} (c : BinC X.K C g op) (F : FnOk X.prog X.w X.K X.mg X.base CX k g fd ps sp) (hb : Binds X.K fd ps []) (hr : Room k X.A) (hx : Passes CX X E) : OpR X (binaryOp op) (rBinO C sp E) := by
  rintro pins s σ H x y v u Q I rx ry ⟨a, dx, fs, b, dy, gs, rfl, rfl, ha, hb', q⟩
  cases rx
  cases ry
  obtain ⟨ox, od, J⟩ := inst_of I ha
  obtain ⟨oy, ody, J'⟩ := inst_of I hb'
  obtain ⟨m, hF⟩ := I.fr
  refine PySem.W.binop_K hF I.ok.mod.kin J J'.type c.one c.at_ c.fn ?_
  refine thn (run_under (us := [.ref a, .ref b]) (vs := [.ref a, .ref b]) F (sub_here hr) hb hx I (.cons rfl (.cons rfl .nil)) q) ?_
  rintro w s' ⟨z, H', I', rz, qz⟩
  exact SlX.cmpback rz ⟨z, H', I', rz, qz⟩
/-- y in x, x an instance of the class at C: its __contains__ gives a bool -/
def rInO (C : Addr) (sp : Sp) (E : XK) (neg : Bool) : R2 := fun y x H Q => ∃ (a dx : Addr) (fs : List (Str × V)), x = .ref a ∧ H a = some (.ins C dx fs) ∧ sp [.ref a, y] H (fun v H' => ∃ b, v = .bl b ∧ Q (.bl (if neg then !b else b)) H') E
structure InC (K : PySem.W.Frag) (C g : Addr) : Prop where
  at_ : PySem.W.findIn K (.ref C) "__contains__" = some (some (.ref g))
  fn : PySem.W.isFn K (.ref g) = true
theorem op_inO (c : InC X.K C g) (F : FnOk X.prog X.w X.K X.mg X.base CX k g fd ps sp) (hb : Binds X.K fd ps []) (hr : Room k X.A) (hx : Passes CX X E) : OpR X (compareOp .In) (rInO C sp E false) := by
  rintro pins s σ H y x u v Q I ry rx ⟨a, dx, fs, rfl, ha, q⟩
  cases rx
  obtain ⟨ox, od, J⟩ := inst_of I ha
  obtain ⟨m, hF⟩ := I.fr
  refine PySem.W.in_K hF I.ok.mod.kin J c.at_ c.fn ?_
  refine thn (run_under (us := [.ref a, u]) (vs := [.ref a, y]) F (sub_here hr) hb hx I (.cons rfl (.cons ry .nil)) q) ?_
  rintro w s' ⟨z, H', I', rz, b, rfl, qz⟩
  cases rz
  exact wpAny_pure ⟨.bl b, H', I', rfl, qz⟩
theorem op_notInO (c : InC X.K C g) (F : FnOk X.prog X.w X.K X.mg X.base CX k g fd ps sp) (hb : Binds X.K fd ps []) (hr : Room k X.A) (hx : Passes CX X E) : OpR X (compareOp .NotIn) (rInO C sp E true) := by
  rintro pins s σ H y x u v Q I ry rx ⟨a, dx, fs, rfl, ha, q⟩
  cases rx
  obtain ⟨ox, od, J⟩ := inst_of I ha
  obtain ⟨m, hF⟩ := I.fr
  refine PySem.W.notIn_K hF I.ok.mod.kin J c.at_ c.fn ?_
  refine thn (run_under (us := [.ref a, u]) (vs := [.ref a, y]) F (sub_here hr) hb hx I (.cons rfl (.cons ry .nil)) q) ?_
  rintro w s' ⟨z, H', I', rz, b, rfl, qz⟩
  cases rz
  exact wpAny_pure ⟨.bl (!b), H', I', rfl, qz⟩
/-- len(x) -/
structure LenC (K : PySem.W.Frag) (C g : Addr) : Prop where
  at_ : PySem.W.findIn K (.ref C) "__len__" = some (some (.ref g))
  fn : PySem.W.isFn K (.ref g) = true
theorem len_under {R : Value → Shared → Prop} {Q1 : Nat → Hp → Prop} {dx : Addr} {fs : List (Str × V)} (c : LenC X.K C g) (F : FnOk X.prog X.w X.K X.mg X.base CX k g fd ps sp) (hb : Binds X.K fd ps []) (sb : Sub X (k + 1) A1) (hx : Passes CX X E) (I : Inv X pins σ H s)
    (ha : H a = some (.ins C dx fs)) (h : sp [.ref a] H (fun v H' => ∃ n : Nat, v = .int n ∧ n ≤ sizeLine ∧ Q1 n H') E) (hR : ∀ (n : Nat) H' s' t, n ≤ sizeLine → Inv X pins σ H' s' → Q1 n H' → R (.int n t) s') : wpAny (model X.prog X.w) A1 (call (.builtin "len") [.ref a]) R X.xe s := by
  obtain ⟨ox, od, J⟩ := inst_of I ha
  refine Calls.call_function_entry kind_len plain_len entry_len (args_len1 _) ?_
  unfold Builtin.«len»
  refine wpAny_bind (m := oneArg "len" _) (wpAny_pure ?_)
  refine wpAny_bind (PySem.W.special_fn I.kIn J c.at_ (beq_iff_eq.mp c.fn) ?_)
  refine thn (run_under (us := [.ref a]) (vs := [.ref a]) F sb.in1 hb hx I (.cons rfl .nil) h) ?_
  rintro w s' ⟨z, H', I', rz, n, rfl, hn, hq⟩
  obtain ⟨t, rfl⟩ := rz
  have h63 : ((n : Int)) < 2 ^ 63 := by
    rw [sizeLine_eq] at hn
    omega
  refine wpAny_bind (wpAny_holding (wpAny_pure ?_))
  refine wpAny_bind (wpAny_letGo ?_)
  refine wpAny_ite_false (decide_eq_false (show ¬ ((n : Int) < 0) by omega)) ?_
  refine wpAny_ite_false (decide_eq_false (show ¬ ((n : Int) ≥ 2 ^ 63) by omega)) ?_
  exact wpAny_bind (wpAny_mkInt (wpAny_pure ⟨_, rfl, hR n H' _ _ hn (I'.tok _) hq⟩))
def rLenO (C : Addr) (sp : Sp) (E : XK) : List V → Hp → VK → Prop := fun xs H Q => ∃ (a dx : Addr) (fs : List (Str × V)), xs = [.ref a] ∧ H a = some (.ins C dx fs) ∧ sp [.ref a] H (fun v H' => ∃ n : Nat, v = .int n ∧ n ≤ sizeLine ∧ Q (.int n) H') E
theorem call_lenO (c : LenC X.K C g) (F : FnOk X.prog X.w X.K X.mg X.base CX k g fd ps sp) (hb : Binds X.K fd ps []) (hr : Room (k + 1) X.A) (hx : Passes CX X E) : CallR X (.builtin "len") (rLenO C sp E) := by
  rintro pins s σ H xs us Q I r ⟨a, dx, fs, rfl, ha, q⟩
  obtain ⟨u, rfl, ru⟩ := r.one
  cases ru
  exact len_under (Q1 := fun n H' => Q (.int n) H') c F hb (sub_here hr) hx I ha q fun n H' s' t _ I' hq => ⟨.int n, H', I', ⟨t, rfl⟩, hq⟩
/-- something that is no more looked at -/
def junk (q : Addr) : HO := .ext fun h => ∃ o, h.get? q = some o
theorem junk_ok {P : Program} {w : World} {H : Hp} {h : Heap} {q : Addr} {o : Obj} (e : h.get? q = some o) : ObjOk P w H h q (junk q) := ⟨⟨_, e⟩, ⟨_, e⟩, fun _ _ ⟨u, z⟩ k => ⟨u, k _ z⟩⟩
/-- the class's __iter__ gives iter(l) of a list l, and it has a __len__ -/
structure IterC (K : PySem.W.Frag) (C gi gl : Addr) : Prop where
  it : PySem.W.findIn K (.ref C) "__iter__" = some (some (.ref gi))
  itF : PySem.W.isFn K (.ref gi) = true
  ln : LenC K C gl
/-- list(x) -/
def rListO (K : PySem.W.Frag) (C : Addr) (si sl : Sp) (E : XK) : List V → Hp → VK → Prop := fun xs H Q => ∃ (a dx : Addr) (fs : List (Str × V)), xs = [.ref a] ∧ H a = some (.ins C dx fs) ∧ ∀ q, H q = none →
  si [.ref a] (upd H q (.lst [])) (fun v H1 => ∃ (l it : Addr) (zs : List V), v = .ref it ∧ H1 a = some (.ins C dx fs) ∧ H1 it = some (ItO l it 0) ∧ SqL K H1 l zs ∧ l ≠ q ∧ l ≠ it ∧ H1 q = some (.lst []) ∧
    sl [.ref a] H1 (fun v H2 => ∃ n : Nat, v = .int n ∧ n ≤ sizeLine ∧ H2 it = some (ItO l it 0) ∧ SqL K H2 l zs ∧ H2 q = some (.lst []) ∧ Q (.ref q) (upd (upd H2 it (junk it)) q (.lst zs))) E) E
/-- .. where nothing is raised -/
theorem run_under0 {Q : VK} {us : List Value} {vs : List V} {Ex : Value → Shared → Prop} (F : FnOk X.prog X.w X.K X.mg X.base CX0 k g fd ps sp) (sb : Sub X k A1) (hb : Binds X.K fd ps []) (I : Inv X pins σ H s) (r : Vals vs us) (h : sp vs H Q E) :
    wpAny (model X.prog X.w) A1 (call (.ref g) us) (EP X pins σ Q) Ex s := by
  have len := F.len _ _ _ _ h
  have bnd := hb s us I.kIn (by rw [List.append_nil, ← r.length]; exact len)
  rw [List.append_nil] at bnd
  refine wpAny_call (codeAny_mono (F.run A1 X.stack s H ⟨us, []⟩ us vs Q E sb.room (env_under sb I) bnd r h) ?_)
  rintro (e | fl) s' z
  · exact False.elim z
  · cases fl <;> first | exact I.after z | exact z.elim
theorem len_under0 {R : Value → Shared → Prop} {Ex : Value → Shared → Prop} {Q1 : Nat → Hp → Prop} {dx : Addr} {fs : List (Str × V)} (c : LenC X.K C g) (F : FnOk X.prog X.w X.K X.mg X.base CX0 k g fd ps sp) (hb : Binds X.K fd ps []) (sb : Sub X (k + 1) A1) (I : Inv X pins σ H s)
    (ha : H a = some (.ins C dx fs)) (h : sp [.ref a] H (fun v H' => ∃ n : Nat, v = .int n ∧ n ≤ sizeLine ∧ Q1 n H') E) (hR : ∀ (n : Nat) H' s' t, n ≤ sizeLine → Inv X pins σ H' s' → Q1 n H' → R (.int n t) s') : wpAny (model X.prog X.w) A1 (call (.builtin "len") [.ref a]) R Ex s := by
  obtain ⟨ox, od, J⟩ := inst_of I ha
  refine Calls.call_function_entry kind_len plain_len entry_len (args_len1 _) ?_
  unfold Builtin.«len»
  refine wpAny_bind (m := oneArg "len" _) (wpAny_pure ?_)
  refine wpAny_bind (PySem.W.special_fn I.kIn J c.at_ (beq_iff_eq.mp c.fn) ?_)
  refine thn (run_under0 (us := [.ref a]) (vs := [.ref a]) F sb.in1 hb I (.cons rfl .nil) h) ?_
  rintro w s' ⟨z, H', I', rz, n, rfl, hn, hq⟩
  obtain ⟨t, rfl⟩ := rz
  have h63 : ((n : Int)) < 2 ^ 63 := by
    rw [sizeLine_eq] at hn
    omega
  refine wpAny_bind (wpAny_holding (wpAny_pure ?_))
  refine wpAny_bind (wpAny_letGo ?_)
  refine wpAny_ite_false (decide_eq_false (show ¬ ((n : Int) < 0) by omega)) ?_
  refine wpAny_ite_false (decide_eq_false (show ¬ ((n : Int) ≥ 2 ^ 63) by omega)) ?_
  exact wpAny_bind (wpAny_mkInt (wpAny_pure ⟨_, rfl, hR n H' _ _ hn (I'.tok _) hq⟩))
theorem hint_own {Q : Bool → Shared → Prop} {Ex : Value → Shared → Prop} {Q1 : Nat → Hp → Prop} {dx : Addr} {fs : List (Str × V)} (c : LenC X.K C g) (F : FnOk X.prog X.w X.K X.mg X.base CX0 k g fd ps sp) (hb : Binds X.K fd ps []) (sb : Sub X (k + 1) A1) (I : Inv X pins σ H s)
    (ha : H a = some (.ins C dx fs)) (h : sp [.ref a] H (fun v H' => ∃ n : Nat, v = .int n ∧ n ≤ sizeLine ∧ Q1 n H') E) (hR : ∀ b n H' s', Inv X pins σ H' s' → Q1 n H' → Q b s') : wpAny (model X.prog X.w) A1 (Builtin.List.listLengthHint (.ref a)) Q Ex s := by
  obtain ⟨ox, od, J⟩ := inst_of I ha
  unfold Builtin.List.listLengthHint
  refine wpAny_bind (wpAny_bind (J.type.here ((PySem.W.looks_findIn I.kIn c.at_).here ?_)))
  refine PySem.W.KFB.if_not rfl ?_
  refine PySem.W.KFB.if_so rfl ?_
  refine wpAny_bind (wpAny_rule ?_)
  refine wpAny_bind (wpAny_attempt (len_under0 c F hb sb I ha h ?_))
  intro n H' s' t hn I' hq
  show wpAny _ _ (pure (some (n : Int)) >>= _) _ _ _
  refine wpAny_bind (wpAny_pure ?_)
  have hl : Builtin.List.listTooLong ((n : Int).toNat) = false := by
    rw [Int.toNat_natCast]; exact notLongL hn
  refine PySem.W.KFB.if_not hl ?_
  exact wpAny_pure (hR _ n H' s' I' hq)
/-! ### the list's iterator, drawn to its end -/
theorem py_item {it l : Addr} {i : Nat} {items : Array Value} {v : Value} {prog : Program} {w : World} {Q : Option Value → Shared → Prop} {Ex : Value → Shared → Prop} (ho : s.heap.get? it = some (GNX.itObj l i)) (hl : s.heap.IsList l items) (hv : items[i]? = some v)
    (hQ : ∀ h', h'.get? it = some (GNX.itObj l (i + 1)) → (∀ b o, b ≠ it → s.heap.get? b = some o → h'.get? b = some o) → Q (some v) { s with heap := h' }) : wpAny (model prog w) A1 (pyNext (.ref it)) Q Ex s := by
  have hT : s.TypeIs (.ref it) "list_iterator" := ⟨_, ho, rfl⟩
  unfold pyNext
  refine wpAny_bind (wpAny_attempt (wpAny_callSpecial?_slot (name := Str.ofString "__next__") hT slot_listiter_next (wpAny_call_entry slot_listiter_next hT entry_listiter_next (GNX.next_item ho hl hv ?_) (args_listiter_next _))))
  intro h' e sb
  exact wpAny_pure (hQ h' e fun b o hb eb => (sb.2 b hb).trans eb)
theorem py_end {it l : Addr} {i : Nat} {items : Array Value} {prog : Program} {w : World} {Q : Option Value → Shared → Prop} {Ex : Value → Shared → Prop} (hh : A1.handled = none) (ho : s.heap.get? it = some (GNX.itObj l i)) (hl : s.heap.IsList l items) (hv : items[i]? = none)
    (hQ : ∀ h', h'.get? it = some (GNX.itEnd i) → (∀ b o, b ≠ it → s.heap.get? b = some o → h'.get? b = some o) → Q none { s with heap := h' }) : wpAny (model prog w) A1 (pyNext (.ref it)) Q Ex s := by
  have hT : s.TypeIs (.ref it) "list_iterator" := ⟨_, ho, rfl⟩
  unfold pyNext
  refine wpAny_bind (wpAny_attempt (wpAny_callSpecial?_slot (name := Str.ofString "__next__") hT slot_listiter_next (wpAny_call_entry slot_listiter_next hT entry_listiter_next (GNX.next_end hh ho hl hv ?_) (args_listiter_next _))))
  intro h1 h' e vs e1 sb k1 ne he hv'
  refine wpAny_bind (wpAny_isInstance (T := "StopIteration") (b := true) ⟨_, he, rfl⟩ PySem.isSubtype_stop ?_)
  exact wpAny_pure (hQ h' (k1 _ _ e1) fun b o hb eb => k1 _ _ ((sb.2 b hb).trans eb))
theorem same_upd {H : Hp} {q : Addr} {o : HO} (e : H q = some o) : upd H q o = H := by
  funext b
  by_cases z : b = q
  · rw [z, upd_same, e]
  · rw [upd_ne z]
theorem take_next' {α : Type} {xs : List α} {i : Nat} {x : α} (h : xs[i]? = some x) : xs.take (i + 1) = xs.take i ++ [x] := by
  rw [List.take_add_one, h]; rfl
/-- the loop that fills the list at q -/
theorem drain {q l it : Addr} {zs : List V} {F : Hp} {R : Result → Shared → Prop} (hh : A1.in1.handled = none) (lit : l ≠ it) (lq : l ≠ q) (hne : it ≠ q) (hdone : ∀ s', Inv X pins σ F s' → R (.ok (.ret .none)) s') :
    ∀ (n i : Nat) (H1 : Hp) (s1 : Shared), zs.length - i = n → i ≤ zs.length → Inv X pins σ H1 s1 → H1 it = some (ItO l it i) → SqL X.K H1 l zs → H1 q = some (.lst (zs.take i)) → upd (upd H1 it (junk it)) q (.lst zs) = F →
      codeAny (model X.prog X.w) A1 (.builtin "list.extend.loop" ⟨[.ref q, .ref it, .none], []⟩) R s1 := by
  intro n
  induction n with
  | zero =>
    intro i H1 s1 hn hi I hit hl hq hF
    obtain ⟨its, rv, pl, hz⟩ := I.list hl
    have hlen := rv.length
    have nope : its.toArray[i]? = none := by
      rw [List.getElem?_toArray]
      exact List.getElem?_eq_none (by omega)
    refine codeAny_builtin PySem.F.entry_extend_loop ?_
    rw [Around.under_plainId PySem.F.plain_extend_loop _]
    refine wpAny_bind (m := pyNext (.ref it)) (py_end hh (itO_get I hit) pl.isList nope fun h' he hk => ?_)
    have J : Inv X pins σ (upd H1 it (junk it)) { s1 with heap := h' } := I.write (t' := s1.toks) (x := it) (e := it) (by rw [hit]; exact True.intro) (.inl rfl) (fun b u hb e => hk b u hb e) ⟨_, he⟩ (junk_ok he)
    have e : upd H1 it (junk it) = F := by
      rw [← hF]
      refine (same_upd ?_).symm
      rw [upd_ne hne.symm, hq, List.take_of_length_le (by omega)]
    rw [e] at J
    exact wpAny_pure (hdone _ J)
  | succ n ih =>
    intro i H1 s1 hn hi I hit hl hq hF
    obtain ⟨its, rv, pl, hz⟩ := I.list hl
    have hlen := rv.length
    have hx : zs[i]? = some zs[i] := List.getElem?_eq_getElem (by omega)
    obtain ⟨u, hu, ru⟩ := rv.get hx
    refine codeAny_builtin PySem.F.entry_extend_loop ?_
    rw [Around.under_plainId PySem.F.plain_extend_loop _]
    refine wpAny_bind (m := pyNext (.ref it)) (py_item (itO_get I hit) pl.isList (v := u) (by simpa using hu) fun h' he hk => ?_)
    have J : Inv X pins σ (upd H1 it (ItO l it (i + 1))) { s1 with heap := h' } := I.write (t' := s1.toks) (x := it) (e := it) (by rw [hit]; exact True.intro) (.inl rfl) (fun b u hb e => hk b u hb e) ⟨_, he⟩ (itO_ok he)
    have hq' : (upd H1 it (ItO l it (i + 1))) q = some (.lst (zs.take i)) := by rw [upd_ne hne.symm]; exact hq
    obtain ⟨_, ys, c, r2, hl2, e2⟩ := J.lstM hq'
    have hy : ys.length = i := by rw [← hl2, List.length_take]; omega
    refine wpAny_bind (m := updateSeq q (·.push u)) (wpAny_updateSeq e2 rfl (wpAny_pure ⟨plainId_quiet PySem.F.plain_extend_loop _, ?_⟩) (by rw [List.size_toArray]; omega) (by rw [Array.size_push, List.size_toArray]; omega))
    have J2 := J.lset (f := (·.push u)) (its' := ys ++ [u]) (ys := zs.take (i + 1)) (t' := s1.toks) hq' e2 (by simp) (by rw [take_next' hx]; exact r2.append (.cons ru .nil)) (by rw [List.length_take]; omega)
    refine ih (i + 1) _ _ (by omega) (by omega) J2 ?_ ?_ upd_same ?_
    · rw [upd_ne hne]; exact upd_same
    · exact (((Kp.refl [it, q] H1).put (by simp)).put (by simp)).ls (by simp [lit, lq]) hl
    · rw [← hF]
      funext b
      by_cases z : b = q
      · rw [z, upd_same, upd_same]
      · rw [upd_ne z, upd_ne z]
        by_cases y : b = it
        · rw [y, upd_same, upd_same]
        · rw [upd_ne y, upd_ne y, upd_ne z, upd_ne y]
theorem call_listO {gi gl : Addr} {fdi fdl : FuncData} {psi psl : List Str} {si sl : Sp} {ki kl : Nat} (c : IterC X.K C gi gl) (Fi : FnOk X.prog X.w X.K X.mg X.base CX0 ki gi fdi psi si) (bi : Binds X.K fdi psi []) (Fl : FnOk X.prog X.w X.K X.mg X.base CX0 kl gl fdl psl sl) (bl : Binds X.K fdl psl [])
    (hr : Room (max ki (kl + 1) + 2) X.A) (hcalm : X.calm = true := by rfl) : CallR X (.type "list") (rListO X.K C si sl E) := by
  rintro pins s σ H xs us Q I rv ⟨a, dx, fs, rfl, ha, hq⟩
  obtain ⟨u, rfl, ru⟩ := rv.one
  cases ru
  have sb0 : Sub X (max ki (kl + 1)) X.A.in1.in1 := (sub_here hr).in1.in1
  have hh : X.A.handled = none := I.ok.hd hcalm
  refine callType_codes (Q₁ := fun obj s₁ => obj = .ref s.heap.objs.size ∧ s₁ = { s with heap := s.heap.push { cls := .type "list", data := .seq #[] } }) PySem.F.called_list (PySem.F.typeCall_list_1 _) PySem.F.entry_list_init (code_list_new _ ⟨rfl, rfl⟩) ?_
  rintro obj s₁ ⟨rfl, rfl⟩
  have hS : (s.heap.push { cls := .type "list", data := .seq #[] }).get? s.heap.objs.size = some { cls := .type "list", data := .seq #[] } := Heap.get?_push_size _ rfl
  refine ⟨⟨_, hS, rfl⟩, PySem.F.args_list_init_2 _ _, ?_⟩
  have fr : H s.heap.objs.size = none := I.hok.fresh (Nat.le_refl _)
  have todo := hq _ fr
  generalize hqq : s.heap.objs.size = q at *
  have I1 : Inv X pins σ (upd H q (.lst [])) { s with heap := s.heap.push { cls := .type "list", data := .seq #[] } } := by
    rw [← hqq]
    exact I.lnew (its := []) (t' := s.toks) .nil (Nat.zero_le _)
  show wpAny _ _ (Builtin.List.listItems (.ref q) >>= fun old => Builtin.List.listUpdate (.ref q) (fun _ => #[]) >>= fun _ => letGo old.toList.reverse >>= fun _ => Builtin.List.listExtendWith (.ref q) (.ref a) .none) _ _ _
  refine wpAny_bind ?_
  unfold Builtin.List.listItems
  refine wpAny_bind (wpAny_seqItems hS rfl (wpAny_pure ?_))
  refine wpAny_bind (m := updateSeq q fun _ => #[]) (wpAny_updateSeq hS rfl ?_)
  have I2 := I1.lset (f := fun _ => #[]) (its := []) (its' := []) (ys := []) (t' := s.toks) upd_same hS rfl .nil (Nat.zero_le _)
  rw [upd_upd] at I2
  refine wpAny_bind (wpAny_letGo ?_)
  have ha2 : upd H q (.lst []) a = some (.ins C dx fs) := by rw [upd_ne (ne_of_none ha fr)]; exact ha
  obtain ⟨ox, od, J⟩ := inst_of I2 ha2
  obtain ⟨m0, hF⟩ := I2.fr
  have naq : a ≠ q := ne_of_none ha fr
  unfold Builtin.List.listExtendWith
  refine wpAny_bind (J.type.here ?_)
  have h1 : Builtin.List.listSameRef (.ref q) (.ref a) = false := beq_eq_false_iff_ne.mpr naq.symm
  refine PySem.W.KFB.if_not (by rw [h1]; rfl) ?_
  refine wpAny_bind (PySem.W.owit_iter hF I2.ok.mod.kin J c.it c.itF ?_)
  refine thn (run_under0 (us := [.ref a]) (vs := [.ref a]) Fi (sb0.mono (Nat.le_max_left _ _)) bi I2 (.cons rfl .nil) todo) ?_
  rintro w s2 ⟨z, H1, I3, rz, l, it, zs, rfl, ha3, hit, hl, lq, lit, hq3, hsl⟩
  cases rz
  unfold PySem.W.OwitIt
  have hT : s2.TypeIs (.ref it) "list_iterator" := ⟨_, itO_get I3 hit, rfl⟩
  refine wpAny_specialOf (name := Str.ofString "__next__") hT slot_listiter_next.lookup ?_
  refine wpAny_bind (wpAny_holding (hint_own c.ln Fl bl (sb0.mono (Nat.le_max_right _ _)) I3 ha3 hsl ?_))
  rintro room n H2 s3 I4 ⟨hit4, hl4, hq4, qend⟩
  have hne : it ≠ q := ne_of hit4 hq4 (fun z => by cases z)
  have fin : ∀ s4, Inv X pins σ H2 s4 → codeAny (model X.prog X.w) X.A.in1 (.builtin "list.extend.loop" ⟨[.ref q, .ref it, .none], []⟩) (wants (fun r s₂ => r = .none ∧ EP X pins σ Q (.ref q) s₂) X.xe) s4 := fun s4 I5 =>
    drain (A1 := X.A.in1) (F := upd (upd H2 it (junk it)) q (.lst zs)) (by simp [hh]) lit lq hne (fun s' I6 => ⟨rfl, .ref q, _, I6, rfl, qend⟩) _ 0 H2 s4 rfl (Nat.zero_le _) I5 hit4 hl4 (by rw [List.take_zero]; exact hq4) rfl
  refine wpAny_ite_split (fun _ => ?_) (fun _ => wpAny_pure ⟨plainId_quiet PySem.F.plain_extend_loop _, fin s3 I4⟩)
  refine wpAny_bind (wpAny_rule (wpAny_bind ?_))
  obtain ⟨_, its, k4, r4, hl5, e4⟩ := I4.lstM hq4
  cases r4
  refine wpAny_bind (m := updateSeq q (·.push .none)) (wpAny_updateSeq e4 rfl ?_)
  have I5 := I4.lset (f := (·.push Value.none)) (its' := [Value.none]) (ys := [.non]) (t' := s3.toks) hq4 e4 (by simp) (.cons rfl .nil) (by rw [List.length_singleton, sizeLine_eq]; decide)
  obtain ⟨_, its5, k5, r5, hl6, e5⟩ := I5.lstM upd_same
  obtain ⟨u5, rfl, ru5⟩ := r5.one
  refine wpAny_updateSeq (a := q) (f := (·.pop)) e5 rfl ?_ (by show 1 ≤ sizeLine; rw [sizeLine_eq]; decide) (by show 0 ≤ sizeLine + 1; exact Nat.zero_le _)
  have I6 := I5.lset (f := (·.pop)) (its := [u5]) (its' := []) (ys := []) (t' := s3.toks) upd_same e5 (by rfl) .nil (Nat.zero_le _)
  rw [upd_upd, same_upd hq4] at I6
  exact wpAny_pure ⟨plainId_quiet PySem.F.plain_extend_loop _, fin _ I6⟩
end
/-! ### a static method, called by its class's name -/
structure StaC (K : PySem.W.Frag) (C : Addr) (mc : Value) (m : Str) (p g : Addr) : Prop where
  rd : PySem.W.readsIn K C mc = true
  ga : PySem.W.specialIn K (.ref C) "__getattribute__" = some (some (.builtin "type.__getattribute__"))
  at_ : PySem.W.findCls K (.ref C) mc m = some (.get (.builtin "staticmethod.__get__") (.ref p) .none (.ref C))
  rc : ∃ rest, PySem.W.recIn K p "staticmethod" = some (.ref g :: rest)
  kp : PySem.W.keepIn K (.ref g) = true
def tSta (C : Addr) (sp : Sp) (dvs : List V) (E : XK) (ta : TE) (t : TA) : TE := fun σ H Q => ta σ H fun x H1 => x = .ref C ∧ t σ H1 fun vs H2 => sp (vs ++ dvs) H2 Q E
section
variable {X : Cx} {CX : CXT} {C p g : Addr} {mc : Value} {m : Str} {fd : FuncData} {ps : List Str} {sp : Sp} {E : XK} {k : Nat} {o e : Expr} {es : List Expr} {ta : TE} {t : TA} {apos pos : Pos} {dvs : List V} {ds : List Value}
theorem pe_sta {pl : Sem Bool} (he : PE X o ta) (c : StaC X.K C mc m p g) (F : FnOk X.prog X.w X.K X.mg X.base CX k g fd ps sp) (hr : Room k X.A) (hb : Binds X.K fd ps ds) (hd : Vals dvs ds) (hx : Passes CX X E) (ha : PA X (e :: es) t)
    (hst : starEach (e :: es) X.env = (false, eval e X.env) :: starEach es X.env := by rfl) (hpl : (backTo pos (starEach es X.env)).any (·.1) = false := by rfl)
    (ht : eval (.Call (.Attribute o m apos) (e :: es) [] pos) X.env = (eval o X.env >>= fun ov => standAt apos.atName >>= fun _ => holding [ov] (getMethod ov m pl) >>= fun fr => callWith pos fr.1 fr.2 (backTo pos (starEach (e :: es) X.env)) (backToKw pos (keywordEach [] X.env))) := by rfl) :
    PE X (.Call (.Attribute o m apos) (e :: es) [] pos) (tSta C sp dvs E ta t) := by
  refine ⟨fun pins s σ H Q I h => ?_⟩
  refine PySem.W.methodCall_KW (pl := pl) (thn (he.run pins s σ H _ I h) ?_) ht
  rintro u s1 ⟨x, H1, I1, rx, rfl, q⟩
  cases rx
  obtain ⟨rest, hp⟩ := c.rc
  refine PySem.W.method_cls I1.kIn c.ga (PySem.W.cls_bind I1.kIn c.rd c.at_ (wpAny_call ?_))
  refine PySem.W.sm_get (s := { s1 with toks := s1.toks + 1 }) I1.kIn hp (PySem.W.handed_on rfl ?_)
  refine PySem.W.callWith_K (first := []) (h₀ := X.base) I1.ok.mod.kin c.kp (thn (ha.run pos pins _ σ H1 _ (I1.tok _) q) fun us s2 ⟨vs, H2, I2, r, q2⟩ => ⟨I2.kIn, ?_⟩) hst hpl
  exact run_fn F hr hb hd hx I2 r q2
/-- x in t, t a tuple, of data of any depth -/
def rInT (K : PySem.W.Frag) (neg : Bool) : R2 := fun x y H Q => ∃ d ds, Dp K H x d ∧ Dp K H y (.tuple ds) ∧ SeqAt.shaped d = true ∧ SeqAt.shaped (.tuple ds) = true ∧ Q (.bl (if neg then !(ds.any fun z => PyData.eqv z d) else ds.any fun z => PyData.eqv z d)) H
theorem op_inT (hu : X.A.units + 65 < cLine) : OpR X (compareOp .In) (rInT X.K false) := by
  rintro pins s σ H x y v u Q I rx ry ⟨d, ds, hd, he, sd, se, q⟩
  obtain ⟨as, r1⟩ := Dp.reads I d x v hd rx
  obtain ⟨bs, r2⟩ := Dp.reads I (.tuple ds) y u he ry
  exact SeqAt.in_tuple_reads r2 r1 (SeqAt.canLay_of_shaped se) (SeqAt.canLay_of_shaped sd) (room_in_shaped sd hu) ⟨.bl _, H, I, rfl, q⟩
theorem op_notInT (hu : X.A.units + 65 < cLine) : OpR X (compareOp .NotIn) (rInT X.K true) := by
  rintro pins s σ H x y v u Q I rx ry ⟨d, ds, hd, he, sd, se, q⟩
  obtain ⟨as, r1⟩ := Dp.reads I d x v hd rx
  obtain ⟨bs, r2⟩ := Dp.reads I (.tuple ds) y u he ry
  exact SeqAt.notIn_tuple_reads r2 r1 (SeqAt.canLay_of_shaped se) (SeqAt.canLay_of_shaped sd) (room_in_shaped sd hu) ⟨.bl _, H, I, rfl, q⟩
end
end My

set_option Elab.async false
set_option linter.all false
set_option maxRecDepth 100000
set_option maxHeartbeats 4000000
/-! ### data of any depth: kept, walked in lists or tuples -/
namespace My
open PySem PySem.Spec PyProof.Rows L2
/-- no list or tuple stands in S -/
def NoSq (H : Hp) (S : List Addr) : Prop := ∀ a ∈ S, (∀ xs, H a ≠ some (.lst xs)) ∧ (∀ xs, H a ≠ some (.tup xs)) ∧ ∀ o u, H a ≠ some (.frz o u)
theorem noSq0 {H : Hp} : NoSq H [] := fun a h => nomatch h
theorem noSq1 {H : Hp} {a C dx : Addr} {fs : List (Str × V)} (h : H a = some (.ins C dx fs)) : NoSq H [a] := fun b hb => by
  rw [List.mem_singleton.mp hb, h]
  exact ⟨fun _ z => (by cases z), fun _ z => (by cases z), fun _ _ z => (by cases z)⟩
theorem Kp.lsN {S : List Addr} {K : PySem.W.Frag} {H H' : Hp} {a : Addr} {xs : List V} (k : Kp S H H') (n : NoSq H S) (h : SqL K H a xs) : SqL K H' a xs := by
  rcases h with (h | ⟨o, h⟩) | h
  · exact .inl (.inl (k _ _ (fun z => (n a z).1 _ h) h))
  · exact .inl (.inr ⟨o, k _ _ (fun z => (n a z).2.2 _ _ h) h⟩)
  · exact .inr h
theorem Kp.tpN {S : List Addr} {K : PySem.W.Frag} {H H' : Hp} {a : Addr} {xs : List V} (k : Kp S H H') (n : NoSq H S) (h : SqT K H a xs) : SqT K H' a xs := by
  rcases h with (h | ⟨o, h⟩) | h
  · exact .inl (.inl (k _ _ (fun z => (n a z).2.1 _ h) h))
  · exact .inl (.inr ⟨o, k _ _ (fun z => (n a z).2.2 _ _ h) h⟩)
  · exact .inr h
mutual
theorem dpN {S : List Addr} {K : PySem.W.Frag} {H H' : Hp} (k : Kp S H H') (n : NoSq H S) : ∀ {d : PyData} {v : V}, Dp K H v d → Dp K H' v d
  | _, _, .non => .non
  | _, _, .bl b => .bl b
  | _, _, .int i => .int i
  | _, _, .str x => .str x
  | _, _, .lst e h => .lst (k.lsN n e) (dpAllN k n h)
  | _, _, .tup e h => .tup (k.tpN n e) (dpAllN k n h)
theorem dpAllN {S : List Addr} {K : PySem.W.Frag} {H H' : Hp} (k : Kp S H H') (n : NoSq H S) : ∀ {ds : List PyData} {vs : List V}, DpAll K H vs ds → DpAll K H' vs ds
  | _, _, .nil => .nil
  | _, _, .cons h t => .cons (dpN k n h) (dpAllN k n t)
end
mutual
def noLs : PyData → Bool
  | .list _ => false
  | .tuple ds => noLsAll ds
  | _ => true
def noLsAll : List PyData → Bool
  | [] => true
  | d :: ds => noLs d && noLsAll ds
end
/-- .. stand as before, where lists change -/
def NoTp (H : Hp) (S : List Addr) : Prop := ∀ a ∈ S, (∀ xs, H a ≠ some (.tup xs)) ∧ ∀ o u, H a ≠ some (.frz o u)
theorem noTp1 {H : Hp} {a : Addr} {xs : List V} (h : H a = some (.lst xs)) : NoTp H [a] := fun b hb => by
  rw [List.mem_singleton.mp hb, h]
  exact ⟨fun _ z => (by cases z), fun _ _ z => (by cases z)⟩
theorem Kp.tpT {S : List Addr} {K : PySem.W.Frag} {H H' : Hp} {a : Addr} {xs : List V} (k : Kp S H H') (n : NoTp H S) (h : SqT K H a xs) : SqT K H' a xs := by
  rcases h with (h | ⟨o, h⟩) | h
  · exact .inl (.inl (k _ _ (fun z => (n a z).1 _ h) h))
  · exact .inl (.inr ⟨o, k _ _ (fun z => (n a z).2 _ _ h) h⟩)
  · exact .inr h
mutual
theorem dpT {S : List Addr} {K : PySem.W.Frag} {H H' : Hp} (k : Kp S H H') (n : NoTp H S) : ∀ {d : PyData} {v : V}, Dp K H v d → noLs d = true → Dp K H' v d
  | _, _, .non, _ => .non
  | _, _, .bl b, _ => .bl b
  | _, _, .int i, _ => .int i
  | _, _, .str x, _ => .str x
  | _, _, .lst e h, z => by cases z
  | _, _, .tup e h, z => .tup (k.tpT n e) (dpAllT k n h z)
theorem dpAllT {S : List Addr} {K : PySem.W.Frag} {H H' : Hp} (k : Kp S H H') (n : NoTp H S) : ∀ {ds : List PyData} {vs : List V}, DpAll K H vs ds → noLsAll ds = true → DpAll K H' vs ds
  | _, _, .nil, _ => .nil
  | _, _, .cons h t, z => by
    have z' := Bool.and_eq_true_iff.mp z
    exact .cons (dpT k n h z'.1) (dpAllT k n t z'.2)
end
theorem dpLen {K : PySem.W.Frag} {H : Hp} : ∀ {ds : List PyData} {vs : List V}, DpAll K H vs ds → vs.length = ds.length
  | _, _, .nil => rfl
  | _, _, .cons h t => by rw [List.length_cons, List.length_cons, dpLen t]
theorem dpGet {K : PySem.W.Frag} {H : Hp} : ∀ {ds : List PyData} {vs : List V}, DpAll K H vs ds → ∀ {i : Nat} {v : V}, vs[i]? = some v → ∃ d, ds[i]? = some d ∧ Dp K H v d
  | _, _, .nil, _, _, e => nomatch e
  | _, _, .cons h t, 0, _, e => by cases e; exact ⟨_, rfl, h⟩
  | _, _, .cons h t, i + 1, _, e => dpGet t (i := i) e
theorem dpApp {K : PySem.W.Frag} {H : Hp} : ∀ {ds es : List PyData} {vs us : List V}, DpAll K H vs ds → DpAll K H us es → DpAll K H (vs ++ us) (ds ++ es)
  | _, _, _, _, .nil, k => k
  | _, _, _, _, .cons h t, k => .cons h (dpApp t k)
theorem dpTake {K : PySem.W.Frag} {H : Hp} : ∀ {ds : List PyData} {vs : List V}, DpAll K H vs ds → ∀ i, DpAll K H (vs.take i) (ds.take i)
  | _, _, .nil, i => by rw [List.take_nil, List.take_nil]; exact .nil
  | _, _, .cons h t, 0 => .nil
  | _, _, .cons h t, i + 1 => .cons h (dpTake t i)
theorem dpDrop {K : PySem.W.Frag} {H : Hp} : ∀ {ds : List PyData} {vs : List V}, DpAll K H vs ds → ∀ i, DpAll K H (vs.drop i) (ds.drop i)
  | _, _, .nil, i => by rw [List.drop_nil, List.drop_nil]; exact .nil
  | _, _, .cons h t, 0 => .cons h t
  | _, _, .cons h t, i + 1 => dpDrop t i
theorem dpRev {K : PySem.W.Frag} {H : Hp} : ∀ {ds : List PyData} {vs : List V}, DpAll K H vs ds → DpAll K H vs.reverse ds.reverse
  | _, _, .nil => .nil
  | _, _, .cons h t => by
    rw [List.reverse_cons, List.reverse_cons]
    exact dpApp (dpRev t) (.cons h .nil)
theorem dpStrs {K : PySem.W.Frag} {H : Hp} : ∀ zs : List Str, DpAll K H (zs.map V.str) (zs.map PyData.str)
  | [] => .nil
  | z :: zs => .cons (.str z) (dpStrs zs)
/-- an object walked that is a list or a tuple -/
def SqAny (K : PySem.W.Frag) (H : Hp) (a : Addr) (xs : List V) : Prop := SqL K H a xs ∨ SqT K H a xs
theorem Kp.anyN {S : List Addr} {K : PySem.W.Frag} {H H' : Hp} {a : Addr} {xs : List V} (k : Kp S H H') (n : NoSq H S) (h : SqAny K H a xs) : SqAny K H' a xs := h.imp (k.lsN n) (k.tpN n)
def iSeq (K : PySem.W.Frag) (tl : TE) : TI := fun σ H R => tl σ H fun x H1 => ∃ a, x = .ref a ∧ (((∃ xs, SqL K H1 a xs) ∧ R (Itl K a) H1) ∨ ((∃ xs, SqT K H1 a xs) ∧ R (Itt K a) H1))
section
variable {X : Cx} {tg : Expr}
theorem pi_seq {l : Expr} {tl : TE} (hl : PE X l tl) : PI X tg l (iSeq X.K tl) := by
  refine ⟨fun pins s σ H R I h => thn (hl.run pins s σ H _ I h) ?_⟩
  rintro v s1 ⟨x, H1, I1, r1, a, rfl, ⟨⟨xs, hq⟩, q⟩ | ⟨⟨xs, hq⟩, q⟩⟩
  · cases r1
    obtain ⟨its, rv, p, hz⟩ := I1.list hq
    refine wpAny_pyIter_list p.isList ⟨_, [_], _, _, H1, rfl, I1.kept (t' := s1.toks) (fun b o e => Heap.get?_push_of_some _ e), turn_list a _, ⟨_, Heap.get?_push_size _ rfl, rfl, rfl⟩, fun b hb => ?_, q⟩
    rw [List.mem_singleton.mp hb]
    exact I1.fpOk (Nat.le_refl _) (I1.hok.fresh (Nat.le_refl _))
  · cases r1
    obtain ⟨its, rv, p, hz⟩ := I1.tuple hq
    refine wpAny_pyIter_tuple (show s1.heap.IsTuple a its.toArray from p) ⟨_, [_], _, _, H1, rfl, I1.kept (t' := s1.toks) (fun b o e => Heap.get?_push_of_some _ e), turn_tuple a _, ⟨_, Heap.get?_push_size _ rfl, rfl, rfl⟩, fun b hb => ?_, q⟩
    rw [List.mem_singleton.mp hb]
    exact I1.fpOk (Nat.le_refl _) (I1.hok.fresh (Nat.le_refl _))
/-- x in s, s a list or a tuple -/
def rInS (K : PySem.W.Frag) (neg : Bool) : R2 := fun x y H Q => ∃ (d : PyData) (ds : List PyData) (a : Addr) (xs : List V), y = .ref a ∧ SqAny K H a xs ∧ DpAll K H xs ds ∧ Dp K H x d ∧ SeqAt.shaped d = true ∧ SeqAt.shaped (.list ds) = true ∧ Q (.bl (if neg then !(ds.any fun z => PyData.eqv z d) else ds.any fun z => PyData.eqv z d)) H
theorem op_inS (hu : X.A.units + 65 < cLine) : OpR X (compareOp .In) (rInS X.K false) := by
  rintro pins s σ H x y v u Q I rx ry ⟨d, ds, a, xs, rfl, ha | ha, hx, hd, s1, s2, q⟩
  · exact op_inD hu pins s σ H x _ v u Q I rx ry ⟨d, ds, hd, .lst ha hx, s1, s2, q⟩
  · exact op_inT hu pins s σ H x _ v u Q I rx ry ⟨d, ds, hd, .tup ha hx, s1, s2, q⟩
theorem op_notInS (hu : X.A.units + 65 < cLine) : OpR X (compareOp .NotIn) (rInS X.K true) := by
  rintro pins s σ H x y v u Q I rx ry ⟨d, ds, a, xs, rfl, ha | ha, hx, hd, s1, s2, q⟩
  · exact op_notInD hu pins s σ H x _ v u Q I rx ry ⟨d, ds, hd, .lst ha hx, s1, s2, q⟩
  · exact op_notInT hu pins s σ H x _ v u Q I rx ry ⟨d, ds, hd, .tup ha hx, s1, s2, q⟩
theorem hu5 {A : Around} {k : Nat} (hr : Room k A) : A.units + 65 < cLine := by have := hr.un; omega
end
section
variable {K : PySem.W.Frag} {H H0 : Hp} {a : Addr} {xs : List V} {g : TG} {tb : TS} {D : Ends} {σ : L2.St} {i : Nat}
/-- for x in s, s a list or a tuple that stands still -/
theorem forS (Pv : Nat → L2.St → Hp → Prop) (hσ : σ[i]? = some (some (.ref a))) (hS : SqAny K H a xs) (h0 : Pv 0 σ H) (hk : ∀ j σ' H', Pv j σ' H' → Kp [] H H')
    (hs : ∀ j x σ H, xs[j]? = some x → Pv j σ H → g x σ H fun σ2 H2 => tb { D with nx := Pv (j + 1), ct := Pv (j + 1), bk := D.nx } σ2 H2) (hd : ∀ σ H, Pv xs.length σ H → D.nx σ H) : tFor (iSeq K (tVar i)) g tb D σ H := by
  rcases hS with h | h
  · exact ⟨_, hσ, a, rfl, .inl ⟨⟨xs, h⟩, for_list Pv h0 (fun j σ' H' _ p => (hk j σ' H' p).ls not0 h) hs hd⟩⟩
  · exact ⟨_, hσ, a, rfl, .inr ⟨⟨xs, h⟩, for_tup Pv h0 (fun j σ' H' _ p => (hk j σ' H' p).tp not0 h) hs hd⟩⟩
end
end My

set_option Elab.async false
set_option linter.all false
set_option maxRecDepth 100000
set_option maxHeartbeats 4000000
/-! ### t < u of two tuples, where only the first items that differ need to compare -/
namespace My
open PySem PySem.SeqAt
open PyProof.Rows Ob Builtin
theorem ltAt1 (l b : Addr) (us vs : Array Value) (n n2 : Nat) (dd dd2 : Option Addr) (sl sl2 : Array (Option Value)) (e r : Nat → Bool) :
    Meets (Builtin.«tuple.__lt__» ⟨[.ref l, .ref b], []⟩) (fun A R s => s.heap.get? l = some { cls := .type "tuple", dict := dd, data := .seq us n, slots := sl } ∧
        s.heap.get? b = some { cls := .type "tuple", dict := dd2, data := .seq vs n2, slots := sl2 } ∧
        (∀ j (h1 : j < us.size) (h2 : j < vs.size), EqAt A.in1 s us[j] vs[j] (e j)) ∧
        (∀ j (h1 : j < us.size) (h2 : j < vs.size), (∀ i, i < j → e i = true) → e j = false → RcOp .Lt A.in1 s us[j] vs[j] (r j)) ∧
        R (.ok (.ret (.bool (lexAt e r (decide (us.size < vs.size)) 0 (min us.size vs.size))))) s) := .of_wp fun prog w A R s h => by
  obtain ⟨hp, g, d, tk, os⟩ := s
  obtain ⟨hl, hb, he, hr, h⟩ := h
  have ty := AutoSeq1.sub_tuple_tuple
  have zl : (us.toList.zip vs.toList).length = min us.size vs.size := by simp
  wp_walk using wpAny_loadPart' hl, wpAny_loadPart' hb, wpAny_forIn_list _ (fun rest b s' => b.1 = none ∧ s' = ⟨hp, g, d, tk, os⟩ ∧ ∃ i, rest = (us.toList.zip vs.toList).drop i ∧ (∀ k, k < i → e k = true) ∧
      R (.ok (.ret (.bool (lexAt e r (decide (us.size < vs.size)) i (min us.size vs.size - i))))) ⟨hp, g, d, tk, os⟩) _
  case turn =>
    rintro ⟨y, x⟩ rest b s' ⟨nb, rfl, i, hz, ae, hR⟩
    have li : i < (us.toList.zip vs.toList).length := Nat.lt_of_not_le fun h' => by rw [List.drop_of_length_le h'] at hz; cases hz
    have lm : i < min us.size vs.size := zl ▸ li
    have m1 : i < us.size := by omega
    have m2 : i < vs.size := by omega
    rw [List.drop_eq_getElem_cons li] at hz
    injection hz with e1 e2
    obtain rfl : y = us[i] := by have := congrArg Prod.fst e1; simpa using this
    obtain rfl : x = vs[i] := by have := congrArg Prod.snd e1; simpa using this
    rw [show min us.size vs.size - i = (min us.size vs.size - (i + 1)) + 1 by omega, lexAt_succ] at hR
    refine wpAny_bind (he i m1 m2 prog w _ _ ?_)
    cases q : e i with
    | true =>
      rw [q, if_pos rfl] at hR
      wp_walk
      exact ⟨rfl, rfl, i + 1, e2, fun k hk => by
        rcases Nat.lt_succ_iff_lt_or_eq.mp hk with h | h
        · exact ae k h
        · rw [h]; exact q, hR⟩
    | false =>
      rw [q, if_neg Bool.false_ne_true] at hR
      have go := hr i m1 m2 ae q prog w
      wp_walk using go
      exact ⟨_, rfl, by simpa using hR⟩
  case fin =>
    rintro ⟨b1, b2⟩ s' ⟨nb, rfl, i, hz, ae, hR⟩
    simp only at nb
    subst nb
    have out : min us.size vs.size ≤ i := Nat.le_of_not_lt fun h' => by
      have h' : i < (us.toList.zip vs.toList).length := by rw [zl]; exact h'
      rw [List.drop_eq_getElem_cons h'] at hz; cases hz
    rw [Nat.sub_eq_zero_of_le out, lexAt_zero] at hR
    wp_walk
    exact ⟨_, rfl, by simpa [Builtin.Tuple.tupleCompareSizes] using hR⟩
  case h => exact ⟨rfl, rfl, 0, rfl, fun k hk => absurd hk (Nat.not_lt_zero k), by simpa using h⟩
theorem tuples_lt1 {A : Around} {s : Shared} {l b : Addr} {us vs : Array Value} {e r : Nat → Bool} (hl : s.heap.IsTuple l us) (hb : s.heap.IsTuple b vs) (hu : A.units < cLine)
    (he : ∀ j (h1 : j < us.size) (h2 : j < vs.size), EqAt A.in1 s us[j] vs[j] (e j))
    (hr : ∀ j (h1 : j < us.size) (h2 : j < vs.size), (∀ i, i < j → e i = true) → e j = false → RcOp .Lt A.in1 s us[j] vs[j] (r j)) :
    RcOp .Lt A s (.ref l) (.ref b) (lexAt e r (decide (us.size < vs.size)) 0 (min us.size vs.size)) := fun prog w E Q h => by
  obtain ⟨⟨c1, d1, p1, s1⟩, ho, hc, n, hd⟩ := id hl
  obtain ⟨⟨c2, d2, p2, s2⟩, ho2, hc2, n2, hd2⟩ := id hb
  simp only at hc hd hc2 hd2
  subst hc hd hc2 hd2
  exact richCompare_meets_room (op := .Lt) ⟨_, ho, rfl⟩ ⟨_, ho2, rfl⟩ F.slot_tuple_lt F.entry_tuple_lt (F.args_tuple_lt_2 _ _) (ltAt1 l b us vs n n2 d1 d2 s1 s2 e r) ⟨ho, ho2, he, hr, ⟨(fun x => nomatch x), h⟩⟩ hu
end My

set_option Elab.async false
set_option linter.all false
set_option maxRecDepth 100000
set_option maxHeartbeats 4000000
/-! ### sorted(moves): a move is ((caller, word, what), goal) -/
namespace My
open PySem PySem.Spec PyProof.Rows L2
abbrev Dd := Int × Str × Key
abbrev Mv := Dd × Int
def kD : Key → PyData
  | .inl i => .int i
  | .inr z => .str z
def ddD (d : Dd) : PyData := .tuple [.int d.1, .str d.2.1, kD d.2.2]
def mvD (m : Mv) : PyData := .tuple [ddD m.1, .int m.2]
def kKey : Key → List Nat
  | .inl i => [0, i.toNat]
  | .inr z => 1 :: z.cps.toList
def ddK (d : Dd) : List (List Nat) := [[d.1.toNat], d.2.1.cps.toList, kKey d.2.2]
def mvK (m : Mv) : List (List Nat) := ddK m.1 ++ [[m.2.toNat]]
def mvLt (m n : Mv) : Bool := decide (mvK m < mvK n)
def sameK : Key → Key → Bool
  | .inl _, .inl _ => true
  | .inr _, .inr _ => true
  | _, _ => false
def posK : Key → Prop
  | .inl i => 0 ≤ i
  | .inr _ => True
def MvOk (m : Mv) : Prop := 0 ≤ m.1.1 ∧ 0 ≤ m.2 ∧ posK m.1.2.2 ∧ PyData.canLay0 (ddD m.1) = true
def MvCmp (m n : Mv) : Prop := m.1.1 = n.1.1 → m.1.2.1 = n.1.2.1 → sameK m.1.2.2 n.1.2.2 = true
theorem mvLt_swo {α : Type} (k : α → Mv) : SrtO.Swo fun x y => mvLt (k x) (k y) := by
  refine ⟨fun x y h => ?_, fun x y z h1 h2 => ?_⟩
  · unfold mvLt at h ⊢
    exact decide_eq_false (List.lt_asymm (of_decide_eq_true h))
  · unfold mvLt at h1 h2 ⊢
    exact decide_eq_false (List.not_lt.mpr (List.le_trans (List.not_lt.mp (of_decide_eq_false h1)) (List.not_lt.mp (of_decide_eq_false h2))))
theorem eqvK (a b : Key) : PyData.eqv (kD a) (kD b) = decide (a = b) := by
  cases a with
  | inl i =>
    cases b with
    | inl j =>
      have e : PyData.eqv (kD (.inl i)) (kD (.inl j)) = (i == j) := by simp only [kD, PyData.eqv]
      rw [e, Bool.eq_iff_iff, beq_iff_eq, decide_eq_true_eq]
      exact ⟨fun h => by rw [h], fun h => Sum.inl.inj h⟩
    | inr z =>
      have e : PyData.eqv (kD (.inl i)) (kD (.inr z)) = false := by simp only [kD, PyData.eqv]
      rw [e, decide_eq_false (fun h => nomatch h)]
  | inr y =>
    cases b with
    | inl j =>
      have e : PyData.eqv (kD (.inr y)) (kD (.inl j)) = false := by simp only [kD, PyData.eqv]
      rw [e, decide_eq_false (fun h => nomatch h)]
    | inr z =>
      have e : PyData.eqv (kD (.inr y)) (kD (.inr z)) = (y == z) := by simp only [kD, PyData.eqv]
      rw [e, Bool.eq_iff_iff, beq_iff_eq, decide_eq_true_eq]
      exact ⟨fun h => by rw [h], fun h => Sum.inr.inj h⟩
theorem eqvDd (a b : Dd) : PyData.eqv (ddD a) (ddD b) = decide (a = b) := by
  obtain ⟨a1, a2, a3⟩ := a
  obtain ⟨b1, b2, b3⟩ := b
  have e : PyData.eqv (ddD (a1, a2, a3)) (ddD (b1, b2, b3)) = ((a1 == b1) && ((a2 == b2) && (PyData.eqv (kD a3) (kD b3) && true))) := by simp only [ddD, PyData.eqv, PyData.eqvAll]
  rw [e, eqvK, Bool.and_true, Bool.eq_iff_iff, Bool.and_eq_true, Bool.and_eq_true, beq_iff_eq, beq_iff_eq, decide_eq_true_eq, decide_eq_true_eq]
  constructor
  · rintro ⟨rfl, rfl, rfl⟩; rfl
  · intro h; cases h; exact ⟨rfl, rfl, rfl⟩
theorem eqvMv (a b : Mv) : PyData.eqv (mvD a) (mvD b) = decide (a = b) := by
  obtain ⟨a1, a2⟩ := a
  obtain ⟨b1, b2⟩ := b
  have e : PyData.eqv (mvD (a1, a2)) (mvD (b1, b2)) = (PyData.eqv (ddD a1) (ddD b1) && ((a2 == b2) && true)) := by simp only [mvD, PyData.eqv, PyData.eqvAll]
  rw [e, eqvDd, Bool.and_true, Bool.eq_iff_iff, Bool.and_eq_true, beq_iff_eq, decide_eq_true_eq, decide_eq_true_eq]
  constructor
  · rintro ⟨rfl, rfl⟩; rfl
  · intro h; cases h; exact ⟨rfl, rfl⟩
/-! #### as it stands in the heap -/
def KvIs (kv : Value) : Key → Prop
  | .inl i => ∃ t, kv = .int i t
  | .inr z => ∃ t, kv = .str z t
def IsDd (h : Heap) (d : Addr) (x : Dd) : Prop := ∃ o n tc tw kv, h.get? d = some o ∧ o.cls = .type "tuple" ∧ o.data = .seq #[.int x.1 tc, .str x.2.1 tw, kv] n ∧ KvIs kv x.2.2
def IsMv (h : Heap) (v : Value) (m : Mv) : Prop := ∃ a o n d tg, v = .ref a ∧ h.get? a = some o ∧ o.cls = .type "tuple" ∧ o.data = .seq #[.ref d, .int m.2 tg] n ∧ IsDd h d m.1
theorem IsMv.keeps {h h' : Heap} {v : Value} {m : Mv} (p : IsMv h v m) (k : ∀ b o, h.get? b = some o → o.cls = .type "tuple" → h'.get? b = some o) : IsMv h' v m := by
  obtain ⟨a, o, n, d, tg, e, g, c, dd, o2, n2, tc, tw, kv, g2, c2, dd2, kk⟩ := p
  exact ⟨a, o, n, d, tg, e, k _ _ g c, c, dd, o2, n2, tc, tw, kv, k _ _ g2 c2, c2, dd2, kk⟩
theorem readsK {h : Heap} {kv : Value} {k : Key} (e : KvIs kv k) : Reads h kv (kD k) [] := by
  cases k with
  | inl i => obtain ⟨t, rfl⟩ := e; exact .int i t
  | inr z => obtain ⟨t, rfl⟩ := e; exact .str z t
theorem IsDd.reads {h : Heap} {d : Addr} {x : Dd} (p : IsDd h d x) : ∃ as, Reads h (.ref d) (ddD x) as := by
  obtain ⟨o, n, tc, tw, kv, g, c, dd, kk⟩ := p
  exact ⟨_, .tuple g c dd (.cons (.int _ _) (.cons (.str _ _) (.cons (readsK kk) .nil)))⟩
theorem seqs2 {us : Array Value} {x y : Value} (h : us.toList = [x, y]) : us = #[x, y] := by
  rw [← Array.toArray_toList (xs := us), h]
theorem seqs3 {us : Array Value} {x y z : Value} (h : us.toList = [x, y, z]) : us = #[x, y, z] := by
  rw [← Array.toArray_toList (xs := us), h]
theorem isDd_of {h : Heap} {v : Value} {x : Dd} {as : List Addr} (r : Reads h v (ddD x) as) : ∃ d, v = .ref d ∧ IsDd h d x := by
  obtain ⟨c, w, k⟩ := x
  generalize e : ddD (c, w, k) = y at r
  unfold ddD at e
  cases r with
  | tuple g cl dd ra =>
    cases e
    rename_i a o vs n
    generalize el : vs.toList = l at ra
    cases ra with
    | cons r1 ra =>
      cases r1 with
      | int _ tc =>
        cases ra with
        | cons r2 ra =>
          cases r2 with
          | str _ tw =>
            cases ra with
            | cons r3 ra =>
              cases ra
              refine ⟨a, rfl, o, n, tc, tw, _, g, cl, by rw [dd, seqs3 el], ?_⟩
              cases k with
              | inl i => cases r3 with
                | int _ t => exact ⟨t, rfl⟩
              | inr z => cases r3 with
                | str _ t => exact ⟨t, rfl⟩
  | _ => cases e
theorem isMv_of {h : Heap} {v : Value} {m : Mv} {as : List Addr} (r : Reads h v (mvD m) as) : IsMv h v m := by
  obtain ⟨x, i⟩ := m
  generalize e : mvD (x, i) = y at r
  unfold mvD at e
  cases r with
  | tuple g cl dd ra =>
    cases e
    rename_i a o vs n
    generalize el : vs.toList = l at ra
    cases ra with
    | cons r1 ra =>
      obtain ⟨d, rfl, p⟩ := isDd_of r1
      cases ra with
      | cons r2 ra =>
        cases r2 with
        | int _ tg =>
          cases ra
          exact ⟨a, o, n, d, tg, rfl, g, cl, by rw [dd, seqs2 el], p⟩
  | _ => cases e
def kLt : Key → Key → Bool
  | .inl i, .inl j => decide (i < j)
  | .inr y, .inr z => decide (y.cps.toList < z.cps.toList)
  | _, _ => false
theorem toNat_lt {a b : Int} (ha : 0 ≤ a) (hb : 0 ≤ b) : a.toNat < b.toNat ↔ a < b := by omega
theorem nat1_lt {a b : Nat} : ([a] : List Nat) < [b] ↔ a < b := by
  rw [List.cons_lt_cons_iff]
  constructor
  · rintro (h | ⟨_, h⟩)
    · exact h
    · exact absurd h (List.lt_irrefl _)
  · exact .inl
theorem int1_lt {a b : Int} (ha : 0 ≤ a) (hb : 0 ≤ b) : ([a.toNat] : List Nat) < [b.toNat] ↔ a < b := by rw [nat1_lt, toNat_lt ha hb]
theorem int1_eq {a b : Int} (ha : 0 ≤ a) (hb : 0 ≤ b) : ([a.toNat] : List Nat) = [b.toNat] ↔ a = b := by
  constructor
  · intro h; have := (List.cons.inj h).1; omega
  · rintro rfl; rfl
theorem strs_eq {a b : Str} : a.cps.toList = b.cps.toList ↔ a = b := by
  constructor
  · intro h
    obtain ⟨⟨a⟩⟩ := a
    obtain ⟨⟨b⟩⟩ := b
    have h : a = b := h
    rw [h]
  · rintro rfl; rfl
theorem kKey_eq {a b : Key} (ha : posK a) (hb : posK b) : kKey a = kKey b ↔ a = b := by
  cases a with
  | inl i =>
    cases b with
    | inl j =>
      constructor
      · intro h
        have h : [0, i.toNat] = [0, j.toNat] := h
        have e := (List.cons.inj (List.cons.inj h).2).1
        have a1 : 0 ≤ i := ha
        have b1 : 0 ≤ j := hb
        rw [show i = j by omega]
      · rintro h; rw [h]
    | inr z => exact ⟨fun h => absurd (show [0, i.toNat] = 1 :: z.cps.toList from h) (by simp), fun h => nomatch h⟩
  | inr y =>
    cases b with
    | inl j => exact ⟨fun h => absurd (show 1 :: y.cps.toList = [0, j.toNat] from h) (by simp), fun h => nomatch h⟩
    | inr z =>
      constructor
      · intro h
        have h : 1 :: y.cps.toList = 1 :: z.cps.toList := h
        rw [strs_eq.mp (List.cons.inj h).2]
      · rintro h; rw [h]
theorem kKey_lt {a b : Key} (ha : posK a) (hb : posK b) (s : sameK a b = true) : kKey a < kKey b ↔ kLt a b = true := by
  cases a with
  | inl i =>
    cases b with
    | inl j =>
      have a1 : 0 ≤ i := ha
      have b1 : 0 ≤ j := hb
      show ([0, i.toNat] : List Nat) < [0, j.toNat] ↔ decide (i < j) = true
      rw [List.cons_lt_cons_iff, decide_eq_true_eq, ← toNat_lt a1 b1, ← nat1_lt (a := i.toNat)]
      constructor
      · rintro (h | ⟨_, h⟩)
        · exact absurd h (Nat.lt_irrefl _)
        · exact h
      · exact fun h => .inr ⟨rfl, h⟩
    | inr z => cases s
  | inr y =>
    cases b with
    | inl j => cases s
    | inr z =>
      show ((1 :: y.cps.toList : List Nat) < 1 :: z.cps.toList) ↔ decide (y.cps.toList < z.cps.toList) = true
      rw [List.cons_lt_cons_iff, decide_eq_true_eq]
      constructor
      · rintro (h | ⟨_, h⟩)
        · exact absurd h (Nat.lt_irrefl _)
        · exact h
      · exact fun h => .inr ⟨rfl, h⟩
/-- what < of two deeds tells -/
def ddB (x y : Dd) : Bool := if x.1 = y.1 then (if x.2.1 = y.2.1 then (if x.2.2 = y.2.2 then false else kLt x.2.2 y.2.2) else decide (x.2.1.cps.toList < y.2.1.cps.toList)) else decide (x.1 < y.1)
theorem ddB_eq {x y : Dd} (hx : 0 ≤ x.1) (hy : 0 ≤ y.1) (kx : posK x.2.2) (ky : posK y.2.2) (c : x.1 = y.1 → x.2.1 = y.2.1 → sameK x.2.2 y.2.2 = true) : ddB x y = decide (ddK x < ddK y) := by
  have e : ddK x < ddK y ↔ (x.1 < y.1 ∨ x.1 = y.1 ∧ (x.2.1.cps.toList < y.2.1.cps.toList ∨ x.2.1 = y.2.1 ∧ kKey x.2.2 < kKey y.2.2)) := by
    unfold ddK
    rw [List.cons_lt_cons_iff (a := [x.1.toNat]), List.cons_lt_cons_iff (a := x.2.1.cps.toList), List.cons_lt_cons_iff (a := kKey x.2.2), int1_lt hx hy, int1_eq hx hy, strs_eq]
    constructor
    · rintro (h | ⟨h, h2 | ⟨h2, h3 | ⟨_, h3⟩⟩⟩)
      · exact .inl h
      · exact .inr ⟨h, .inl h2⟩
      · exact .inr ⟨h, .inr ⟨h2, h3⟩⟩
      · exact absurd h3 (List.lt_irrefl _)
    · rintro (h | ⟨h, h2 | ⟨h2, h3⟩⟩)
      · exact .inl h
      · exact .inr ⟨h, .inl h2⟩
      · exact .inr ⟨h, .inr ⟨h2, .inl h3⟩⟩
  rw [Bool.eq_iff_iff, decide_eq_true_eq, e]
  unfold ddB
  by_cases h1 : x.1 = y.1
  · rw [if_pos h1]
    have n1 : ¬ x.1 < y.1 := by omega
    by_cases h2 : x.2.1 = y.2.1
    · rw [if_pos h2]
      have n2 : ¬ x.2.1.cps.toList < y.2.1.cps.toList := by rw [h2]; exact List.lt_irrefl _
      by_cases h3 : x.2.2 = y.2.2
      · rw [if_pos h3]
        refine ⟨(fun z => by cases z), ?_⟩
        rintro (h | ⟨_, h | ⟨_, h⟩⟩)
        · exact absurd h n1
        · exact absurd h n2
        · rw [h3] at h; exact absurd h (List.lt_irrefl _)
      · rw [if_neg h3, ← kKey_lt kx ky (c h1 h2)]
        refine ⟨fun z => .inr ⟨h1, .inr ⟨h2, z⟩⟩, ?_⟩
        rintro (h | ⟨_, h | ⟨_, h⟩⟩)
        · exact absurd h n1
        · exact absurd h n2
        · exact h
    · rw [if_neg h2, decide_eq_true_eq]
      refine ⟨fun z => .inr ⟨h1, .inl z⟩, ?_⟩
      rintro (h | ⟨_, h | ⟨h, _⟩⟩)
      · exact absurd h n1
      · exact h
      · exact absurd h h2
  · rw [if_neg h1, decide_eq_true_eq]
    refine ⟨.inl, ?_⟩
    rintro (h | ⟨h, _⟩)
    · exact h
    · exact absurd h h1
section
variable {prog : Program} {w : World} {A : Around} {s : Shared}
open PySem.SeqAt Ob
theorem eqKv {a b : Value} {x y : Key} (ha : KvIs a x) (hb : KvIs b y) : EqAt A s a b (decide (x = y)) := by
  cases x with
  | inl i =>
    obtain ⟨t, rfl⟩ := ha
    cases y with
    | inl j =>
      obtain ⟨u, rfl⟩ := hb
      have e : decide ((Sum.inl i : Key) = .inl j) = (i == j) := by
        rw [Bool.eq_iff_iff, beq_iff_eq, decide_eq_true_eq]
        exact ⟨fun h => Sum.inl.inj h, fun h => by rw [h]⟩
      rw [e]; exact EqAt.int_int _ _ _ _
    | inr z =>
      obtain ⟨u, rfl⟩ := hb
      rw [decide_eq_false (fun h => nomatch h)]; exact EqAt.int_str _ _ _ _
  | inr z =>
    obtain ⟨t, rfl⟩ := ha
    cases y with
    | inl j =>
      obtain ⟨u, rfl⟩ := hb
      rw [decide_eq_false (fun h => nomatch h)]; exact EqAt.str_int _ _ _ _
    | inr z2 =>
      obtain ⟨u, rfl⟩ := hb
      have e : decide ((Sum.inr z : Key) = .inr z2) = (z == z2) := by
        rw [Bool.eq_iff_iff, beq_iff_eq, decide_eq_true_eq]
        exact ⟨fun h => Sum.inr.inj h, fun h => by rw [h]⟩
      rw [e]; exact EqAt.str_str _ _ _ _
theorem RcOp.lt_str1 (a b : Str) (t u : Tok) : RcOp .Lt A s (.str a t) (.str b u) (decide (a.cps.toList < b.cps.toList)) := fun _ _ _ _ h => lt_str h
theorem ltKv {a b : Value} {x y : Key} (ha : KvIs a x) (hb : KvIs b y) (k : sameK x y = true) : RcOp .Lt A s a b (kLt x y) := by
  cases x with
  | inl i =>
    obtain ⟨t, rfl⟩ := ha
    cases y with
    | inl j => obtain ⟨u, rfl⟩ := hb; exact RcOp.lt_int _ _ _ _
    | inr z => cases k
  | inr z =>
    obtain ⟨t, rfl⟩ := ha
    cases y with
    | inl j => cases k
    | inr z2 => obtain ⟨u, rfl⟩ := hb; exact RcOp.lt_str1 _ _ _ _
theorem beq_dec {α : Type} [DecidableEq α] [BEq α] [LawfulBEq α] (a b : α) : (a == b) = decide (a = b) := by
  rw [Bool.eq_iff_iff, beq_iff_eq, decide_eq_true_eq]
def eJ (x y : Dd) : Nat → Bool
  | 0 => decide (x.1 = y.1)
  | 1 => decide (x.2.1 = y.2.1)
  | _ => decide (x.2.2 = y.2.2)
def rJ (x y : Dd) : Nat → Bool
  | 0 => decide (x.1 < y.1)
  | 1 => decide (x.2.1.cps.toList < y.2.1.cps.toList)
  | _ => kLt x.2.2 y.2.2
theorem ddLt {d d' : Addr} {x y : Dd} (p : IsDd s.heap d x) (q : IsDd s.heap d' y) (hu : A.units < cLine) (c : x.1 = y.1 → x.2.1 = y.2.1 → sameK x.2.2 y.2.2 = true) : RcOp .Lt A s (.ref d) (.ref d') (ddB x y) := by
  obtain ⟨o, n, tc, tw, kv, g, cl, dd, kk⟩ := p
  obtain ⟨o2, n2, tc2, tw2, kv2, g2, cl2, dd2, kk2⟩ := q
  have R := tuples_lt1 (A := A) (s := s) (l := d) (b := d') (us := #[.int x.1 tc, .str x.2.1 tw, kv]) (vs := #[.int y.1 tc2, .str y.2.1 tw2, kv2]) (e := eJ x y) (r := rJ x y) ⟨o, g, cl, n, dd⟩ ⟨o2, g2, cl2, n2, dd2⟩ hu (fun j h1 h2 => ?_) (fun j h1 h2 ae ef => ?_)
  · have e : lexAt (eJ x y) (rJ x y) (decide (3 < 3)) 0 3 = ddB x y := by
      have f3 : decide (3 < 3) = false := by decide
      rw [f3, lexAt_succ, lexAt_succ, lexAt_succ, lexAt_zero]
      unfold ddB eJ rJ
      by_cases h1 : x.1 = y.1
      · by_cases h2 : x.2.1 = y.2.1
        · by_cases h3 : x.2.2 = y.2.2 <;> simp [h1, h2, h3]
        · simp [h1, h2]
      · simp [h1]
    rw [← e]
    exact R
  · match j, h1, h2 with
    | 0, _, _ => show EqAt _ _ (.int x.1 tc) (.int y.1 tc2) (decide (x.1 = y.1)); rw [← beq_dec]; exact EqAt.int_int _ _ _ _
    | 1, _, _ => show EqAt _ _ (.str x.2.1 tw) (.str y.2.1 tw2) (decide (x.2.1 = y.2.1)); rw [← beq_dec]; exact EqAt.str_str _ _ _ _
    | 2, _, _ => exact eqKv kk kk2
    | k + 3, h1, _ => exact absurd h1 (by simp)
  · match j, h1, h2, ae, ef with
    | 0, _, _, _, _ => exact RcOp.lt_int _ _ _ _
    | 1, _, _, _, _ => exact RcOp.lt_str1 _ _ _ _
    | 2, _, _, ae, _ => exact ltKv kk kk2 (c (of_decide_eq_true (ae 0 (by decide))) (of_decide_eq_true (ae 1 (by decide))))
    | k + 3, h1, _, _, _ => exact absurd h1 (by simp)
theorem app_lt {α : Type} [LT α] [DecidableLT α] [DecidableEq α] : ∀ {l m s t : List α}, l.length = m.length → l ≠ m → (l ++ s < m ++ t ↔ l < m)
  | [], [], _, _, _, h => absurd rfl h
  | a :: l, b :: m, s, t, e, h => by
    rw [List.cons_append, List.cons_append, List.cons_lt_cons_iff, List.cons_lt_cons_iff]
    by_cases hab : a = b
    · subst hab
      have hn : l ≠ m := fun z => h (by rw [z])
      rw [app_lt (by simpa using e) hn]
    · constructor
      · rintro (h | ⟨h, _⟩)
        · exact .inl h
        · exact absurd h hab
      · rintro (h | ⟨h, _⟩)
        · exact .inl h
        · exact absurd h hab
theorem ddK_inj {x y : Dd} (hx : 0 ≤ x.1) (hy : 0 ≤ y.1) (kx : posK x.2.2) (ky : posK y.2.2) (h : ddK x = ddK y) : x = y := by
  unfold ddK at h
  have h1 := (int1_eq hx hy).mp (List.cons.inj h).1
  have h2 := strs_eq.mp (List.cons.inj (List.cons.inj h).2).1
  have h3 := (kKey_eq kx ky).mp (List.cons.inj (List.cons.inj (List.cons.inj h).2).2).1
  obtain ⟨a, b, c⟩ := x
  obtain ⟨a', b', c'⟩ := y
  have h1 : a = a' := h1
  have h2 : b = b' := h2
  have h3 : c = c' := h3
  rw [h1, h2, h3]
theorem mvLt_eq {m n : Mv} (hm : MvOk m) (hn : MvOk n) (c : MvCmp m n) : mvLt m n = if m.1 = n.1 then decide (m.2 < n.2) else ddB m.1 n.1 := by
  have hB := ddB_eq hm.1 hn.1 hm.2.2.1 hn.2.2.1 c
  rw [Bool.eq_iff_iff]
  unfold mvLt mvK
  rw [decide_eq_true_eq]
  by_cases h : m.1 = n.1
  · rw [if_pos h, h, decide_eq_true_eq, ← int1_lt hm.2.1 hn.2.1]
    have e : ∀ (l : List (List Nat)) (a b : List Nat), (l ++ [a] < l ++ [b]) ↔ a < b := fun l a b => by
      induction l with
      | nil =>
        rw [List.nil_append, List.nil_append, List.cons_lt_cons_iff]
        exact ⟨fun h => h.elim id fun h => absurd h.2 (List.lt_irrefl _), .inl⟩
      | cons x r ih =>
        rw [List.cons_append, List.cons_append, List.cons_lt_cons_iff, ih]
        exact ⟨fun h => h.elim (fun h => absurd h (List.lt_irrefl _)) fun h => h.2, fun h => .inr ⟨rfl, h⟩⟩
    exact e _ _ _
  · rw [if_neg h, hB, decide_eq_true_eq]
    exact app_lt rfl fun z => h (ddK_inj hm.1 hn.1 hm.2.2.1 hn.2.2.1 z)
theorem mv_cmp {vs : List Value} {k : Value → Mv} (hp : ∀ v ∈ vs, IsMv s.heap v (k v)) (ok : ∀ v ∈ vs, MvOk (k v)) (cm : ∀ v ∈ vs, ∀ u ∈ vs, MvCmp (k v) (k u)) (hu : A.units + 64 < cLine) : SrtO.Cmp prog w A s (tuples' false) (fun p => p.1 ∈ vs) (SrtO.lt2 fun v u => mvLt (k v) (k u)) := by
  intro p q hm hm'
  have h1 := hp _ hm
  have h2 := hp _ hm'
  have o1 := ok _ hm
  have o2 := ok _ hm'
  have c := cm _ hm _ hm'
  show wpAny (model prog w) A (keyLt' (tuples' false) p.1 q.1) (fun r s' => s' = s ∧ r = mvLt (k p.1) (k q.1)) (fun _ _ => False) s
  rw [mvLt_eq o1 o2 c]
  generalize k p.1 = m at h1 o1 c ⊢
  generalize k q.1 = m2 at h2 o2 c ⊢
  obtain ⟨a, o, n, d, tg, e1, g, cl, dd, pd⟩ := h1
  obtain ⟨a2, o2', n2, d2, tg2, e2, g2, cl2, dd2, pd2⟩ := h2
  rw [e1, e2]
  obtain ⟨as, r1⟩ := pd.reads
  obtain ⟨bs, r2⟩ := pd2.reads
  refine PySem.W.kat_lt g dd g2 dd2 ?_
  show PySem.W.KatLex prog w A false (decide (2 < 2)) _ [(.ref d, .ref d2), (.int m.2 tg, .int m2.2 tg2)] 0 s
  have du : A.units + min (ddD m.1).depth (ddD m2.1).depth < cLine := by
    have e : (ddD m.1).depth ≤ 2 := by
      obtain ⟨⟨c1, w1, k1⟩, g1⟩ := m
      cases k1
      · show max 0 (max 0 (max 0 0)) + 1 ≤ 2; decide
      · show max 0 (max 0 (max 0 0)) + 1 ≤ 2; decide
    omega
  refine PySem.W.kat_cons (eqAt_reads _ _ A s _ _ _ _ r1 r2 o1.2.2.2 o2.2.2.2 du prog w _ _ ?_)
  rw [eqvDd]
  refine PySem.W.kat_go (fun e3 => ?_) (fun e3 => ?_)
  · have e4 : m.1 = m2.1 := of_decide_eq_true e3
    rw [if_pos e4]
    refine PySem.W.kat_yes (PySem.W.kat_cons (EqAt.int_int _ _ _ _ prog w _ _ ?_))
    refine PySem.W.kat_go (fun e5 => ?_) (fun e5 => ?_)
    · have e6 : m.2 = m2.2 := by simpa using e5
      refine PySem.W.kat_yes (PySem.W.kat_nil ⟨rfl, ?_⟩)
      rw [e6]
      exact (decide_eq_false (Int.lt_irrefl _)).symm
    · exact PySem.W.kat_no (PySem.W.kat_one _ _ (PyProof.Rows.lt_int ⟨rfl, rfl⟩))
  · rw [if_neg (of_decide_eq_false e3)]
    exact PySem.W.kat_no (PySem.W.kat_one _ _ (ddLt pd pd2 (by omega) c prog w _ _ ⟨rfl, rfl⟩))
theorem mv_firsts {h : Heap} : ∀ {vs : List Value} {k : Value → Mv}, (∀ v ∈ vs, IsMv h v (k v)) → ∃ fs : List Value, PySem.W.KatTups h vs fs ∧ fs.length = vs.length ∧ ∀ f ∈ fs, ∃ d x, f = Value.ref d ∧ IsDd h d x
  | [], _, _ => ⟨[], PySem.W.KatTups.nil, rfl, fun _ hm => nomatch hm⟩
  | v :: vs, k, hp => by
    obtain ⟨fs, h1, h2, h3⟩ := mv_firsts (vs := vs) (k := k) fun v' hm => hp v' (List.mem_cons_of_mem _ hm)
    obtain ⟨a, o, n, d, tg, e, g, cl, dd, pd⟩ := hp v List.mem_cons_self
    subst e
    refine ⟨.ref d :: fs, PySem.W.KatTups.cons g cl dd rfl h1, by rw [List.length_cons, List.length_cons, h2], fun f hm => ?_⟩
    rcases List.mem_cons.mp hm with rfl | hm
    · exact ⟨d, _, rfl, pd⟩
    · exact h3 f hm
theorem mv_sortable {a : Addr} {vs : List Value} {k : Value → Mv} (h0 : 0 < vs.length) (hp : ∀ v ∈ vs, IsMv s.heap v (k v)) (ok : ∀ v ∈ vs, MvOk (k v)) (cm : ∀ v ∈ vs, ∀ u ∈ vs, MvCmp (k v) (k u)) (hu : A.units + 64 < cLine) (ha : ∀ o, s.heap.get? a = some o → o.cls ≠ .type "tuple") : SrtO.SortableO prog w A s a vs fun v u => mvLt (k v) (k u) := by
  intro h' keep
  have hp' : ∀ v ∈ vs, IsMv h' v (k v) := fun v hm => (hp v hm).keeps fun b o e c => keep b o (fun z => by subst z; exact ha o e c) e
  obtain ⟨fs, h1, h2, h3⟩ := mv_firsts hp'
  refine ⟨tuples' false, fun Q E hq => ?_, mv_cmp (s := { s with heap := h' }) hp' ok cm hu⟩
  refine PySem.W.kat_kind (T := .type "tuple") h1 (by omega) (fun f hm => ?_) (by rfl) ?_
  · obtain ⟨d, x, rfl, o, n, tc, tw, kv, g, cl, _⟩ := h3 f hm
    rw [← cl]
    exact (PySem.W.Looks.ld g).andThen .now
  · have e : (Value.type "tuple" != Value.type "tuple") = false := by first | decide +kernel | rfl | decide
    rw [e]
    exact hq
end
end My
namespace My
open PySem PySem.Spec PyProof.Rows L2
/-- sorted(xs), xs a list of moves (k says which) that may be compared: a new list, sorted -/
def rSortedM (K : PySem.W.Frag) : List V → Hp → VK → Prop := fun vs H Q => ∃ (a : Addr) (xs : List V) (k : V → Mv), vs = [V.ref a] ∧ SqL K H a xs ∧ (∀ x ∈ xs, Dp K H x (mvD (k x)) ∧ MvOk (k x)) ∧ (∀ x ∈ xs, ∀ y ∈ xs, MvCmp (k x) (k y)) ∧
  ∀ ys p, SrtO.Srtd (fun x y => mvLt (k x) (k y)) ys → ys.Perm xs → H p = none → Q (.ref p) (upd H p (.lst ys))
theorem dp_ref {K : PySem.W.Frag} {H : Hp} {v : V} {m : Mv} (h : Dp K H v (mvD m)) : ∃ a, v = .ref a := by
  unfold mvD at h
  cases h
  exact ⟨_, rfl⟩
section
variable {X : Cx}
theorem cr_sortedM (hu : X.A.units + 70 < cLine) : CallR X (.builtin "sorted") (rSortedM X.K) := by
  intro pins s σ H vs us Q I r h
  obtain ⟨a, xs, k, rfl, hs, hx, hc, q⟩ := h
  obtain ⟨its, rv, hl, hz⟩ := I.list hs
  obtain ⟨u, rfl, ru⟩ := vals1 r
  obtain rfl : u = Value.ref a := ru
  obtain ⟨e1, e2⟩ := refs_back rv fun x m => dp_ref (hx x m).1
  have mem : ∀ v ∈ its, backV v ∈ xs ∧ RelV (backV v) v := fun v hv => by
    obtain ⟨t, rfl⟩ := e2 v hv
    exact ⟨by rw [e1]; exact List.mem_map.mpr ⟨_, hv, rfl⟩, rfl⟩
  have mv : ∀ v ∈ its, IsMv s.heap v (k (backV v)) := fun v hv => by
    obtain ⟨m, rr⟩ := mem v hv
    obtain ⟨as, rd⟩ := Dp.reads I _ _ v (hx _ m).1 rr
    exact isMv_of rd
  refine SrtO.sorted_ord (mvLt_swo fun v => k (backV v)) hl.isList (by rw [← rv.length]; exact hz) (fun h2 h₁ a₁ ha kk => ?_) fun out h1 h2 => ?_
  · refine mv_sortable (s := { s with heap := h₁ }) (by omega) (fun v hv => (mv v hv).keeps fun b o e _ => (kk b o e).2) (fun v hv => (hx _ (mem v hv).1).2) (fun v hv u hu2 => hc _ (mem v hv).1 _ (mem u hu2).1) (show X.A.units + 1 + 1 + 64 < cLine by omega) fun o e => ?_
    have e' : some o = some (seqObj "list" its.toArray 0) := e.symm.trans ha
    cases e'
    intro c
    exact absurd (Value.type.inj c) (by decide)
  · have h3 : ∀ u ∈ out, ∃ a, u = Value.ref a := fun u hu => e2 u (h2.perm.mem_iff.mp hu)
    have pb : (out.map backV).Perm xs := by rw [e1]; exact h2.perm.map backV
    have fd : H (s.heap.objs.size + 1) = none := I.hok.fresh (Nat.le_succ _)
    refine ⟨.ref (s.heap.objs.size + 1), upd H (s.heap.objs.size + 1) (.lst (out.map backV)), I.laid (t' := s.toks) (fun b o e => sortedAll_old e) (Nat.le_succ _) ⟨?_, out, _, vals_back h3, (sortedAll_at s.heap its out.toArray).choose_spec⟩, rfl, q _ _ (SrtO.srtd_map h1) pb fd⟩
    rw [pb.length_eq]
    exact hz
end
end My

set_option Elab.async false
set_option linter.all false
set_option maxRecDepth 100000
set_option maxHeartbeats 4000000
/-! ### a dict comprehension whose keys are tuples -/
namespace My
open PySem PySem.Spec PyProof.Rows L2
/-- the new dict's keys are tuples that stand in the heap -/
def tDcT (wi : TI) (g : TG) (tt : TT) (tk tv : TE) (vs : List Nat) : TE := fun σ H Q => wi σ H fun J H1 => ∀ D, H1 D = none → ∃ W : Nat → Nat → Hp → Prop, (∃ m, W 0 m (upd H1 D (.dT []))) ∧ ∀ i m H, W i m H →
  (J.stop i H ∧ Q (.ref D) H) ∨ (J.go i H ∧ ∃ Nx : Hp → Prop, (∀ H', Nx H' → ∃ m', m' < m ∧ W (i + 1) m' H') ∧ ∀ x H', J.yld i H x H' → g x (wipe σ vs) H' fun σ2 H2 => wipe σ2 vs = wipe σ vs ∧ tt σ2 H2 fun b H3 =>
    if b = true then tk σ2 H3 fun y H4 => tv σ2 H4 fun z H5 => ∃ (kvs : List (List Key × V)) (k : List Key) (c : Addr), y = .ref c ∧ H5 c = some (.tup (k.map kV)) ∧ H5 D = some (.dT kvs) ∧ kvs.length < sizeLine ∧ Nx (upd H5 D (.dT (putK kvs k z))) else Nx H3)
section
variable {X : Cx}
theorem dictSetT {A : Around} {pins : List (Addr × Obj)} {σ : L2.St} {H : Hp} {s : Shared} {E : Value → Shared → Prop} {D b : Addr} {kvs : List (List Key × V)} {k : List Key} {v : V} {r : Value} {Q : Unit → Shared → Prop} (hu : A.units + 1 < cLine) (I : Inv X pins σ H s) (hD : H D = some (.dT kvs)) (eb : H b = some (.tup (k.map kV)))
    (hz : kvs.length < sizeLine) (rv : RelV v r) (h : ∀ s', Inv X pins σ (upd H D (.dT (putK kvs k v))) s' → Q () s') : wpAny (model X.prog X.w) A (dictSet D (.ref b) r) Q E s := by
  obtain ⟨z, hd, xs, rel, dd⟩ := dt_of I.hok hD
  have zx : xs.length ≤ sizeLine := by rw [← Paired.length rel]; exact z
  have zl : (putK kvs k v).length ≤ sizeLine := by have := length_putK kvs k v; omega
  refine wpAny_dictSet_heap (hsz := zx) (show A.units < cLine by omega) (key_of I.hok eb) dd fun h' dd' hs => h _ ?_
  obtain ⟨q, es, ep, hq, h2, h3, h4, _, h5⟩ := dd'
  refine d_write I (by rw [hD]; exact True.intro) hs ⟨q, hq⟩ ⟨zl, hd, _, (rel.put k eb rv).keeps fun c ys ec => ?_, q, es, ep, hq, h2, h3, h4, h5⟩
  rw [upd_ne (ne_of ec hD (fun z => nomatch z))]
  exact ec
theorem pe_dcT {kx vx tg iter : Expr} {ifs : List Expr} {scope : Scope} {own : List (Str × Nat)} {pos : Pos} {wi : TI} {g : TG} {tt : TT} {tk tv : TE} (hu : X.A.units + 1 < cLine) (calm : X.calm = true) (nd : X.N.Nodup) (hi : PI X tg iter wi) (ok : BlkOk X.N X.env.scope scope own)
    (pg : ∀ (s : Shared) (H : Hp) (C : Addr) (cl : List (Str × Addr)) (fp : List Addr), PG (X.blk s H scope (compEnvC scope cl C X.env) fp) tg g) (pt : ∀ (s : Shared) (H : Hp) (C : Addr) (cl : List (Str × Addr)) (fp : List Addr), PTs (X.blk s H scope (compEnvC scope cl C X.env) fp) ifs tt)
    (pk : ∀ (s : Shared) (H : Hp) (C : Addr) (cl : List (Str × Addr)) (fp : List Addr), PE (X.blk s H scope (compEnvC scope cl C X.env) fp) kx tk)
    (pv : ∀ (s : Shared) (H : Hp) (C : Addr) (cl : List (Str × Addr)) (fp : List Addr), PE (X.blk s H scope (compEnvC scope cl C X.env) fp) vx tv) (fold : ∀ x, foldedSetIterable iter X.env x = pure x := by intro _; rfl) :
    PE X (.DictComp kx vx [⟨tg, iter, ifs, 0⟩] scope pos) (tDcT wi g tt tk tv (own.map (·.2))) := by
  refine ⟨fun pins s σ H Q I asked => ?_⟩
  rw [arm_eval_DictComp]
  have cells : ∀ y ∈ scope.names, y.2 = .free → ∃ c, X.env.cells.lookup y.1 = some c := fun y hy e => (ok.free y hy e).elim (fun k => I.ok.has _ (.inl k)) fun k => I.ok.has _ (.inr k)
  refine wpAny_comprehension_free (use := none) rfl fold (closure_ok cells) ok.kind (fun y hy e => by rw [ok.uniq y hy, e])
    (thn (hi.run pins s σ H _ I asked) fun xv s1 got => thn got fun itv s2 got2 => ?_)
  obtain ⟨it, fp, tn, J, H2, e, I2, T, at0, own0, rest⟩ := got2
  subst e
  refine wpAny_newObj_type (newEnv_comp ?_)
  generalize eD : s2.heap.objs.size = D
  obtain ⟨W, ⟨m0, w0⟩, turn⟩ := rest D (I2.hok.fresh (Nat.le_of_eq eD))
  generalize e3 : ({ s2 with heap := s2.heap.push { cls := .type "dict", data := .dict #[] } } : Shared) = s3
  have I3 : Inv X pins σ (upd H2 D (.dT [])) s3 := by
    rw [← e3]
    refine I2.laid (t' := s2.toks) (fun b o q => Heap.get?_push_of_some _ q) (Nat.le_of_eq eD) ?_
    rw [← eD]
    exact dt_empty s2.heap I2.big
  have hp3 : s3.heap = s2.heap.push { cls := .type "dict", data := .dict #[] } := by rw [← e3]
  have own3 : ∀ b ∈ fp, FpOk X pins (upd H2 D (.dT [])) b ∧ b < s3.heap.objs.size := fun b hb => by
    obtain ⟨o, q, _⟩ := T.obj _ _ at0 b hb
    have lt := Heap.lt_size q
    exact ⟨⟨by rw [upd_ne (by rw [← eD]; exact Nat.ne_of_lt lt)]; exact (own0 b hb).1, (own0 b hb).2⟩, by rw [hp3, Heap.size_push]; exact Nat.lt_succ_of_lt lt⟩
  have at3 : tn 0 s3.heap := T.keep _ _ _ at0 fun b _ o q => by rw [hp3]; exact Heap.get?_push_of_some _ q
  have I4 := block_start I3 ok nd own3
  have bg := pg s3 (upd H2 D (.dT [])) s3.heap.objs.size (cellsFrom (s3.heap.objs.size + 1) scope.names (cloFrom X.env.cells scope.names [])) fp
  have bt := pt s3 (upd H2 D (.dT [])) s3.heap.objs.size (cellsFrom (s3.heap.objs.size + 1) scope.names (cloFrom X.env.cells scope.names [])) fp
  have bk := pk s3 (upd H2 D (.dT [])) s3.heap.objs.size (cellsFrom (s3.heap.objs.size + 1) scope.names (cloFrom X.env.cells scope.names [])) fp
  have bv := pv s3 (upd H2 D (.dT [])) s3.heap.objs.size (cellsFrom (s3.heap.objs.size + 1) scope.names (cloFrom X.env.cells scope.names [])) fp
  have none3 : ∀ b ∈ fp, (upd H2 D (.dT [])) b = none := fun b hb => (own3 b hb).1.1
  generalize eE : compEnvC scope (cellsFrom (s3.heap.objs.size + 1) scope.names (cloFrom X.env.cells scope.names [])) s3.heap.objs.size X.env = ce at I4 bg bt bk bv
  have cL : ce.locals = s3.heap.objs.size := by subst eE; rfl
  generalize eH : upd H2 D (.dT []) = H3 at I3 I4 bg bt bk bv w0 none3 own3
  generalize e4 : ({ s3 with heap := pushCells (s3.heap.push { cls := .type "dict", data := .dict #[] }) scope.names } : Shared) = s4 at I4
  have at4 : tn 0 s4.heap := T.keep _ _ _ at3 fun b _ o q => by rw [← e4]; exact pushCells_keeps _ _ _ _ (Heap.get?_push_of_some _ q)
  have foot : ∀ {σ' : L2.St} {H' : Hp} {s' : Shared}, Inv (X.blk s3 H3 scope ce fp) [] σ' H' s' → (∀ b ∈ fp, H' b = none) → ∀ b ∈ fp, FpOk (X.blk s3 H3 scope ce fp) [] H' b := fun {σ' H' s'} I' n b hb =>
    ⟨n b hb, (I'.ok.exf b hb).1, I'.ok.exfs b hb, .inl hb, fun x c q => (I'.ok.exf b hb).2 x c q, fun p hp => absurd (show p ∈ ([] : List (Addr × Obj)) ++ [] from hp) (by simp)⟩
  have loop : codeAny (model X.prog X.w) X.A (.compLoop (.DictComp kx vx [⟨tg, iter, ifs, 0⟩] scope pos) 0 (.ref it) (.ref D) ce) (compPost (model X.prog X.w) X.A X.xe none (EP X pins σ Q) (.ref D) s3.heap.objs.size) s4 := by
    refine compLoop_anyD (fun n s' => ∃ i H', Inv (X.blk s3 H3 scope ce fp) [] (wipe σ (own.map (·.2))) H' s' ∧ tn i s'.heap ∧ (∀ b ∈ fp, H' b = none) ∧ W i n H') ?_ m0 ⟨0, H3, I4, at4, none3, w0⟩
    rintro n s5 ⟨i, H5, I5, at5, none5, w5⟩
    rcases turn i n H5 w5 with ⟨stop, out⟩ | ⟨go, Nx, next, step⟩
    · refine thnF (T.done (X.blk s3 H3 scope ce fp) rfl rfl rfl calm i [] s5 _ H5 (fun _ _ => False) I5 (foot I5 none5) at5 stop) fun r s6 ⟨er, I6⟩ => ?_
      subst er
      have back : Inv X pins σ H5 s6 := I3.call' (ch := fp) I6.os I6.base I6.hok I6.bare fun b hb => ⟨(own3 b hb).1.2.2.2.1, (own3 b hb).1.2.1, (own3 b hb).1.2.2.2.2.1, (own3 b hb).1.2.2.2.2.2⟩
      have nC : H5 s3.heap.objs.size = none := cL ▸ (show H5 ce.locals = none from I6.free)
      obtain ⟨m, ns, _⟩ := I6.loc
      have ns : s6.heap.Ns s3.heap.objs.size m := cL ▸ (show s6.heap.Ns ce.locals m from ns)
      refine ⟨m, ns, fun h2 sb => ?_⟩
      obtain ⟨f0, f1, f2, f3, f4, f5⟩ := I3.fpOk (Nat.le_refl _) nC
      exact ⟨.ref D, H5, back.turned (t' := s6.toks) (fun b o hb q => (sb.2 b hb).trans q) f0 f1 f3 f4 f5, rfl, out⟩
    · refine thnF (T.item (X.blk s3 H3 scope ce fp) rfl rfl rfl calm i [] s5 _ H5 (fun _ _ => False) I5 (foot I5 none5) at5 go) fun r s6 ⟨u, er, h6⟩ => ?_
      subst er
      refine thnF h6 fun _ s7 ⟨x, H7, I7, r7, y7, at7, none7⟩ => ?_
      refine thnF (bg.run _ s7 _ H7 x u _ (I7.pinned (foot I7 none7) (T.obj _ _ at7)) r7 (step x H7 y7)) fun _ s8 ⟨σ8, H8, I8, w8, q8⟩ => ?_
      refine thnF (bt.run _ s8 σ8 H8 _ I8 q8) fun b s9 ⟨H9, I9, q9⟩ => ?_
      have fin : ∀ {s' : Shared} {H' : Hp}, Inv (X.blk s3 H3 scope ce fp) ([] ++ pinsAt fp s7.heap) σ8 H' s' → Nx H' → ∃ m, m < n ∧ ∃ i H', Inv (X.blk s3 H3 scope ce fp) [] (wipe σ (own.map (·.2))) H' s' ∧ tn i s'.heap ∧ (∀ b ∈ fp, H' b = none) ∧ W i m H' := fun {s' H'} I' nx => by
        obtain ⟨m', hm, w'⟩ := next H' nx
        have pin : ∀ b ∈ fp, ∀ o, s7.heap.get? b = some o → s'.heap.get? b = some o ∧ H' b = none := fun b hb o q =>
          have z := I'.pin (b, o) (List.mem_append_right _ (List.mem_append_right _ (mem_pinsAt hb q)))
          ⟨z.1, z.2.1⟩
        refine ⟨m', hm, i + 1, H', (I'.unpinned (pins := [])).weak (by rw [← w8, wipe_length]) (fun j v q => ?_), T.keep _ _ _ at7 fun b hb o q => (pin b hb o q).1, fun b hb => ?_, w'⟩
        · rw [← w8] at q
          exact (wipe_some q).1
        · obtain ⟨o, q, _⟩ := T.obj _ _ at7 b hb
          exact (pin b hb o q).2
      cases b with
      | false =>
        simp only [Bool.false_eq_true, if_false] at q9 ⊢
        exact fin I9 q9
      | true =>
        simp only [if_true] at q9 ⊢
        refine thnF (bk.run _ s9 σ8 H9 _ I9 q9) fun z s10 ⟨yk, H10, I10, r10, q10⟩ => ?_
        refine thnF (bv.run _ s10 σ8 H10 _ I10 q10) fun z2 s11 ⟨yv, H11, I11, r11, kvs, k, c, ek, hc, hD, hz, nx⟩ => ?_
        subst ek
        obtain rfl : z = Value.ref c := r10
        exact dictSetT (X := X.blk s3 H3 scope ce fp) hu I11 hD hc hz r11 fun s12 I12 => fin I12 nx
  show codeAny _ _ (.compStart (.DictComp kx vx [⟨tg, iter, ifs, 0⟩] scope pos) 0 (.ref it) (.ref D) (compEnvC scope (cellsFrom (s3.heap.objs.size + 1) scope.names (cloFrom X.env.cells scope.names [])) s3.heap.objs.size X.env)) (compPost (model X.prog X.w) X.A X.xe none (EP X pins σ Q) (.ref D) s3.heap.objs.size) s4
  rw [eE]
  exact codeAny_compStart_dict loop (T.self X.A 0 _ _ _ at4 loop)
end
end My

set_option Elab.async false
set_option linter.all false
set_option maxRecDepth 100000
set_option maxHeartbeats 4000000
/-! ### sets of ints: a comprehension; sorted, of any size -/
namespace My
open PySem PySem.Spec PyProof.Rows L2 PpSet
def tScI (w : World) (wi : TI) (g : TG) (tt : TT) (te : TE) (vs : List Nat) : TE := fun σ H Q => wi σ H fun J H1 => ∀ D, H1 D = none → ∃ W : Nat → Nat → Hp → Prop, (∃ m, W 0 m (upd H1 D (SetO w D (fun _ => false) 0))) ∧ ∀ i m H, W i m H →
  (J.stop i H ∧ Q (.ref D) H) ∨ (J.go i H ∧ ∃ Nx : Hp → Prop, (∀ H', Nx H' → ∃ m', m' < m ∧ W (i + 1) m' H') ∧ ∀ x H', J.yld i H x H' → g x (wipe σ vs) H' fun σ2 H2 => wipe σ2 vs = wipe σ vs ∧ tt σ2 H2 fun b H3 =>
    if b = true then te σ2 H3 fun y H4 => ∃ (k : Int) (S : Int → Bool) (n : Nat), y = .int k ∧ H4 D = some (SetO w D S n) ∧ n + 1 < scanBound ∧ Nx (upd H4 D (SetO w D (fun j => S j || decide (j = k)) (if S k = true then n else n + 1))) else Nx H3)
section
variable {X : Cx}
theorem addI_ok {A : Around} {pins : List (Addr × Obj)} {σ : L2.St} {H : Hp} {s : Shared} {E : Value → Shared → Prop} {D : Addr} {k : Int} {tk : Tok} {S : Int → Bool} {n : Nat} {Q : Value → Shared → Prop} (I : Inv X pins σ H s) (hD : H D = some (SetO X.w D S n)) (room : n + 1 < scanBound)
    (h : ∀ s', Inv X pins σ (upd H D (SetO X.w D (fun j => S j || decide (j = k)) (if S k = true then n else n + 1))) s' → Q .none s') : wpAny (model X.prog X.w) A (call (.builtin "set.add") [.ref D, .int k tk]) Q E s := by
  refine setR_add (setO_get I hD) room fun h' sb new => ?_
  have he : ∃ u, h'.get? D = some u := by
    obtain ⟨o, _, _, _, ho, _⟩ := new
    exact ⟨o, ho⟩
  exact h _ (I.write (e := D) (t' := s.toks + 1) (by rw [hD]; trivial) (.inl rfl) (fun b u hb hu => (sb.2 b hb).trans hu) he (setO_new new))
theorem pe_scI {elt tg iter : Expr} {ifs : List Expr} {scope : Scope} {own : List (Str × Nat)} {pos : Pos} {wi : TI} {g : TG} {tt : TT} {te : TE} (calm : X.calm = true) (nd : X.N.Nodup) (hi : PI X tg iter wi) (ok : BlkOk X.N X.env.scope scope own)
    (pg : ∀ (s : Shared) (H : Hp) (C : Addr) (cl : List (Str × Addr)) (fp : List Addr), PG (X.blk s H scope (compEnvC scope cl C X.env) fp) tg g) (pt : ∀ (s : Shared) (H : Hp) (C : Addr) (cl : List (Str × Addr)) (fp : List Addr), PTs (X.blk s H scope (compEnvC scope cl C X.env) fp) ifs tt)
    (pv : ∀ (s : Shared) (H : Hp) (C : Addr) (cl : List (Str × Addr)) (fp : List Addr), PE (X.blk s H scope (compEnvC scope cl C X.env) fp) elt te) (fold : ∀ x, foldedSetIterable iter X.env x = pure x := by intro _; rfl) :
    PE X (.SetComp elt [⟨tg, iter, ifs, 0⟩] scope pos) (tScI X.w wi g tt te (own.map (·.2))) := by
  refine ⟨fun pins s σ H Q I asked => ?_⟩
  rw [eval_SetComp]
  have cells : ∀ y ∈ scope.names, y.2 = .free → ∃ c, X.env.cells.lookup y.1 = some c := fun y hy e => (ok.free y hy e).elim (fun k => I.ok.has _ (.inl k)) fun k => I.ok.has _ (.inr k)
  refine wpAny_comprehension_free (use := none) rfl fold (closure_ok cells) ok.kind (fun y hy e => by rw [ok.uniq y hy, e])
    (thn (hi.run pins s σ H _ I asked) fun xv s1 got => thn got fun itv s2 got2 => ?_)
  obtain ⟨it, fp, tn, J, H2, e, I2, T, at0, own0, rest⟩ := got2
  subst e
  refine newSet_ok (newEnv_comp ?_)
  generalize eD : s2.heap.objs.size = D
  obtain ⟨W, ⟨m0, w0⟩, turn⟩ := rest D (I2.hok.fresh (Nat.le_of_eq eD))
  generalize e3 : ({ s2 with heap := s2.heap.push { cls := .type "set", dict := none, data := .set #[] 0 (.fresh 0 0 (!X.w.params.followText "set-order")) } } : Shared) = s3
  have I3 : Inv X pins σ (upd H2 D (SetO X.w D (fun _ => false) 0)) s3 := by
    rw [← e3]
    refine I2.laid (t' := s2.toks) (fun b o q => Heap.get?_push_of_some _ q) (Nat.le_of_eq eD) ?_
    rw [← eD]
    exact setO_new (setR_fresh X.w)
  have hp3 : s3.heap = s2.heap.push { cls := .type "set", dict := none, data := .set #[] 0 (.fresh 0 0 (!X.w.params.followText "set-order")) } := by rw [← e3]
  have own3 : ∀ b ∈ fp, FpOk X pins (upd H2 D (SetO X.w D (fun _ => false) 0)) b ∧ b < s3.heap.objs.size := fun b hb => by
    obtain ⟨o, q, _⟩ := T.obj _ _ at0 b hb
    have lt := Heap.lt_size q
    exact ⟨⟨by rw [upd_ne (by rw [← eD]; exact Nat.ne_of_lt lt)]; exact (own0 b hb).1, (own0 b hb).2⟩, by rw [hp3, Heap.size_push]; exact Nat.lt_succ_of_lt lt⟩
  have at3 : tn 0 s3.heap := T.keep _ _ _ at0 fun b _ o q => by rw [hp3]; exact Heap.get?_push_of_some _ q
  have I4 := block_start I3 ok nd own3
  have bg := pg s3 (upd H2 D (SetO X.w D (fun _ => false) 0)) s3.heap.objs.size (cellsFrom (s3.heap.objs.size + 1) scope.names (cloFrom X.env.cells scope.names [])) fp
  have bt := pt s3 (upd H2 D (SetO X.w D (fun _ => false) 0)) s3.heap.objs.size (cellsFrom (s3.heap.objs.size + 1) scope.names (cloFrom X.env.cells scope.names [])) fp
  have bv := pv s3 (upd H2 D (SetO X.w D (fun _ => false) 0)) s3.heap.objs.size (cellsFrom (s3.heap.objs.size + 1) scope.names (cloFrom X.env.cells scope.names [])) fp
  have none3 : ∀ b ∈ fp, (upd H2 D (SetO X.w D (fun _ => false) 0)) b = none := fun b hb => (own3 b hb).1.1
  generalize eE : compEnvC scope (cellsFrom (s3.heap.objs.size + 1) scope.names (cloFrom X.env.cells scope.names [])) s3.heap.objs.size X.env = ce at I4 bg bt bv
  have cL : ce.locals = s3.heap.objs.size := by subst eE; rfl
  generalize eH : upd H2 D (SetO X.w D (fun _ => false) 0) = H3 at I3 I4 bg bt bv w0 none3 own3
  generalize e4 : ({ s3 with heap := pushCells (s3.heap.push { cls := .type "dict", data := .dict #[] }) scope.names } : Shared) = s4 at I4
  have at4 : tn 0 s4.heap := T.keep _ _ _ at3 fun b _ o q => by rw [← e4]; exact pushCells_keeps _ _ _ _ (Heap.get?_push_of_some _ q)
  have foot : ∀ {σ' : L2.St} {H' : Hp} {s' : Shared}, Inv (X.blk s3 H3 scope ce fp) [] σ' H' s' → (∀ b ∈ fp, H' b = none) → ∀ b ∈ fp, FpOk (X.blk s3 H3 scope ce fp) [] H' b := fun {σ' H' s'} I' n b hb =>
    ⟨n b hb, (I'.ok.exf b hb).1, I'.ok.exfs b hb, .inl hb, fun x c q => (I'.ok.exf b hb).2 x c q, fun p hp => absurd (show p ∈ ([] : List (Addr × Obj)) ++ [] from hp) (by simp)⟩
  have loop : codeAny (model X.prog X.w) X.A (.compLoop (.SetComp elt [⟨tg, iter, ifs, 0⟩] scope pos) 0 (.ref it) (.ref D) ce) (compPost (model X.prog X.w) X.A X.xe none (EP X pins σ Q) (.ref D) s3.heap.objs.size) s4 := by
    refine compLoopS_any (fun n s' => ∃ i H', Inv (X.blk s3 H3 scope ce fp) [] (wipe σ (own.map (·.2))) H' s' ∧ tn i s'.heap ∧ (∀ b ∈ fp, H' b = none) ∧ W i n H') ?_ m0 ⟨0, H3, I4, at4, none3, w0⟩
    rintro n s5 ⟨i, H5, I5, at5, none5, w5⟩
    rcases turn i n H5 w5 with ⟨stop, out⟩ | ⟨go, Nx, next, step⟩
    · refine thnF (T.done (X.blk s3 H3 scope ce fp) rfl rfl rfl calm i [] s5 _ H5 (fun _ _ => False) I5 (foot I5 none5) at5 stop) fun r s6 ⟨er, I6⟩ => ?_
      subst er
      have back : Inv X pins σ H5 s6 := I3.call' (ch := fp) I6.os I6.base I6.hok I6.bare fun b hb => ⟨(own3 b hb).1.2.2.2.1, (own3 b hb).1.2.1, (own3 b hb).1.2.2.2.2.1, (own3 b hb).1.2.2.2.2.2⟩
      have nC : H5 s3.heap.objs.size = none := cL ▸ (show H5 ce.locals = none from I6.free)
      obtain ⟨m, ns, _⟩ := I6.loc
      have ns : s6.heap.Ns s3.heap.objs.size m := cL ▸ (show s6.heap.Ns ce.locals m from ns)
      refine ⟨m, ns, fun h2 sb => ?_⟩
      obtain ⟨f0, f1, f2, f3, f4, f5⟩ := I3.fpOk (Nat.le_refl _) nC
      exact ⟨.ref D, H5, back.turned (t' := s6.toks) (fun b o hb q => (sb.2 b hb).trans q) f0 f1 f3 f4 f5, rfl, out⟩
    · refine thnF (T.item (X.blk s3 H3 scope ce fp) rfl rfl rfl calm i [] s5 _ H5 (fun _ _ => False) I5 (foot I5 none5) at5 go) fun r s6 ⟨u, er, h6⟩ => ?_
      subst er
      refine thnF h6 fun _ s7 ⟨x, H7, I7, r7, y7, at7, none7⟩ => ?_
      refine thnF (bg.run _ s7 _ H7 x u _ (I7.pinned (foot I7 none7) (T.obj _ _ at7)) r7 (step x H7 y7)) fun _ s8 ⟨σ8, H8, I8, w8, q8⟩ => ?_
      refine thnF (bt.run _ s8 σ8 H8 _ I8 q8) fun b s9 ⟨H9, I9, q9⟩ => ?_
      have fin : ∀ {s' : Shared} {H' : Hp}, Inv (X.blk s3 H3 scope ce fp) ([] ++ pinsAt fp s7.heap) σ8 H' s' → Nx H' → ∃ m, m < n ∧ ∃ i H', Inv (X.blk s3 H3 scope ce fp) [] (wipe σ (own.map (·.2))) H' s' ∧ tn i s'.heap ∧ (∀ b ∈ fp, H' b = none) ∧ W i m H' := fun {s' H'} I' nx => by
        obtain ⟨m', hm, w'⟩ := next H' nx
        have pin : ∀ b ∈ fp, ∀ o, s7.heap.get? b = some o → s'.heap.get? b = some o ∧ H' b = none := fun b hb o q =>
          have z := I'.pin (b, o) (List.mem_append_right _ (List.mem_append_right _ (mem_pinsAt hb q)))
          ⟨z.1, z.2.1⟩
        refine ⟨m', hm, i + 1, H', (I'.unpinned (pins := [])).weak (by rw [← w8, wipe_length]) (fun j v q => ?_), T.keep _ _ _ at7 fun b hb o q => (pin b hb o q).1, fun b hb => ?_, w'⟩
        · rw [← w8] at q
          exact (wipe_some q).1
        · obtain ⟨o, q, _⟩ := T.obj _ _ at7 b hb
          exact (pin b hb o q).2
      cases b with
      | false =>
        simp only [Bool.false_eq_true, if_false] at q9 ⊢
        exact fin I9 q9
      | true =>
        simp only [if_true] at q9 ⊢
        refine thnF (bv.run _ s9 σ8 H9 _ I9 q9) fun z s10 ⟨yv, H10, I10, r10, k, S0, n0, ey, hD, room, nx⟩ => ?_
        subst ey
        obtain ⟨tk, rfl⟩ := r10
        exact addI_ok (X := X.blk s3 H3 scope ce fp) I10 hD room fun s11 I11 => fin I11 nx
  show codeAny _ _ (.compStart (.SetComp elt [⟨tg, iter, ifs, 0⟩] scope pos) 0 (.ref it) (.ref D) (compEnvC scope (cellsFrom (s3.heap.objs.size + 1) scope.names (cloFrom X.env.cells scope.names [])) s3.heap.objs.size X.env)) (compPost (model X.prog X.w) X.A X.xe none (EP X pins σ Q) (.ref D) s3.heap.objs.size) s4
  rw [eE]
  exact codeAny_compStart_set loop (T.self X.A 0 _ _ _ at4 loop)
end
end My
namespace L2
open PySem PySem.Spec PyProof.Rows
theorem set_sorted {P : Program} {w : World} {A : Around} {E : Value → Shared → Prop} {s : Shared} {a : Addr} {S : Int → Bool} {n : Nat} {Q : Value → Shared → Prop} (R : SetR w s.heap a S n) (hh : A.handled = none) (hn : n ≤ sizeLine)
    (hQ : ∀ s' p (out : Array Value) (c : Nat) (ns : List Int), (∀ b o, s.heap.get? b = some o → s'.heap.get? b = some o) → s'.gens = s.gens → s'.os = s.os → s.heap.objs.size ≤ p →
      s'.heap.get? p = some (seqObj "list" out c) → IntsAre out.toList ns → ns.Pairwise (· < ·) → (∀ k, k ∈ ns ↔ S k = true) → ns.length = n → Q (.ref p) s') : wpAny (model P w) A (call (.builtin "sorted") [.ref a]) Q E s := by
  obtain ⟨o, es, ep, t, ho, hex, hd, g, nd, hm, hb, hf, en, hr, hl⟩ := R
  refine Calls.call_function_entry kind_sorted plain_sorted entry_sorted (args_sorted1 _) ?_
  unfold Builtin.«sorted»
  refine wpAny_bind (m := checkCount "sorted" 1 1 _) (wpAny_pure (wpAny_bind (collect_set (A := A.in1) hh ⟨o, ho, hex.1, hd⟩ hf hb hr hl fun s1 vs k1 hz g1 o1 pm => ?_)))
  have vl : vs.length = n := by rw [pm.length_eq, List.length_map, Array.length_toList]; exact en
  have hI : IntsAre vs (vs.map Builtin.Re.reRawOf) := ints_of vs fun v hv => by
    obtain ⟨e, he, q⟩ := List.mem_map.mp (pm.mem_iff.mp hv)
    obtain ⟨k, tk, h1, _⟩ := g e he
    exact ⟨k, tk, by rw [← q]; exact h1⟩
  have pk : (vs.map Builtin.Re.reRawOf).Perm (es.toList.map keyOf) := by
    have q := pm.map Builtin.Re.reRawOf
    rw [List.map_map] at q
    exact q
  refine wpAny_bind (wpAny_newList ?_ (by rw [vl]; exact hn))
  have at0 : (s1.heap.push (seqObj "list" vs.toArray 0)).get? s1.heap.objs.size = some (seqObj "list" vs.toArray 0) := Heap.get?_push_size _ rfl
  refine wpAny_bind (wpAny_holding (wpAny_call_entry slot_list_sort ⟨_, at0, rfl⟩ entry_list_sort (SrtO.list_sort_ord SrtO.swo_int at0 (by rw [vl]; exact hn) (fun h2 => SrtO.ints_sortable hI h2) fun out h1 h2 => ⟨_, rfl, ?_⟩) (args_list_sort _)))
  obtain ⟨k3, k4, k5⟩ := SrtO.ints_out hI h1 h2
  obtain ⟨c, hc⟩ := sortedHeap_at (vs := vs) (out := out.toArray) at0
  have pn : (out.map SrtO.iv).Perm (es.toList.map keyOf) := k4.trans pk
  refine wpAny_pure ⟨_, rfl, hQ _ s1.heap.objs.size out.toArray c _ (fun b u e => ?_) g1 o1 hz hc (by simpa using k3) (lt_of_le_nodup _ k5 (pn.nodup_iff.mpr nd)) (fun k => by rw [pn.mem_iff, ← hm k]) (by rw [pn.length_eq, List.length_map, Array.length_toList]; exact en)⟩
  have q := k1 b u e
  have lt := Heap.lt_size q
  show (sortedHeap (s1.heap.push (seqObj "list" vs.toArray 0)) s1.heap.objs.size vs out.toArray).get? b = some u
  rw [sortedHeap_old (Nat.ne_of_lt lt) (by rw [size_push']; exact Nat.lt_succ_of_lt lt)]
  exact Heap.get?_push_of_some _ q
/-- sorted(a set of ints), of any size -/
def rSortedSetN (w : World) : List V → Hp → VK → Prop := fun vs H Q => ∃ (a : Addr) (S : Int → Bool) (n : Nat), vs = [V.ref a] ∧ H a = some (SetO w a S n) ∧ n ≤ 100000 ∧
  ∀ (ns : List Int) (p : Addr), ns.Pairwise (· < ·) → (∀ k : Int, k ∈ ns ↔ S k = true) → ns.length = n → H p = none → Q (.ref p) (upd H p (.lst (ns.map V.int)))
theorem cr_sortedSetN {X : Cx} (hc : X.calm = true) : CallR X (.builtin "sorted") (rSortedSetN X.w) := by
  intro pins s σ H vs us Q I r h
  obtain ⟨a, S, n, rfl, ha, hn, q⟩ := h
  have R := setO_get I ha
  rw [Vals.ref1 r]
  refine set_sorted R (I.ok.hd hc) (by rw [sizeLine_eq]; omega) fun s' p out c ns k g o hp hg hi hs hm hl => ?_
  have hlen : (ns.map V.int).length ≤ sizeLine := by rw [List.length_map, hl, sizeLine_eq]; omega
  have hpn : H p = none := I.hok.fresh hp
  have J : Inv X pins σ (upd H p (.lst (ns.map V.int))) { s with heap := s'.heap, gens := s'.gens, drawn := s'.drawn, toks := s'.toks } :=
    I.call (ch := []) (Un.laid k hp hpn) (I.hok.laid k hp ⟨hlen, out.toList, c, vals_of_ints hi, hg⟩) (by rw [g]; exact I.bare) (fun _ z => nomatch z)
  have e : s' = { s with heap := s'.heap, gens := s'.gens, drawn := s'.drawn, toks := s'.toks } := by
    cases s'
    cases s
    cases o
    rfl
  rw [e]
  exact ⟨.ref p, _, J, rfl, q ns p hs hm hl hpn⟩
end L2

set_option Elab.async false
set_option linter.all false
set_option maxRecDepth 100000
set_option maxHeartbeats 4000000
/-! ### a list comprehension of two clauses -/
namespace My
open PySem L2
/-- the inner clause: it adds to the list at D; Nx behind it -/
def tLcIn (wi : TI) (g : TG) (tt : TT) (te : TE) (vs : List Nat) (D : Addr) (σ : L2.St) (H : Hp) (Nx : Hp → Prop) : Prop := wi σ H fun J H1 => ∃ W : Nat → Nat → Hp → Prop, (∃ m, W 0 m H1) ∧ ∀ i m H, W i m H →
  (J.stop i H ∧ Nx H) ∨ (J.go i H ∧ ∃ N2 : Hp → Prop, (∀ H', N2 H' → ∃ m', m' < m ∧ W (i + 1) m' H') ∧ ∀ x H', J.yld i H x H' → g x (wipe σ vs) H' fun σ2 H2 => wipe σ2 vs = wipe σ vs ∧ tt σ2 H2 fun b H3 =>
    if b = true then te σ2 H3 fun y H4 => ∃ acc, H4 D = some (.lst acc) ∧ acc.length < sizeLine ∧ N2 (upd H4 D (.lst (acc ++ [y]))) else N2 H3)
def tLc2 (wi1 : TI) (g1 : TG) (tt1 : TT) (wi2 : TI) (g2 : TG) (tt2 : TT) (te : TE) (vs vs2 : List Nat) : TE := fun σ H Q => wi1 σ H fun J H1 => ∀ D, H1 D = none → ∃ W : Nat → Nat → Hp → Prop, (∃ m, W 0 m (upd H1 D (.lst []))) ∧ ∀ i m H, W i m H →
  (J.stop i H ∧ Q (.ref D) H) ∨ (J.go i H ∧ ∃ Nx : Hp → Prop, (∀ H', Nx H' → ∃ m', m' < m ∧ W (i + 1) m' H') ∧ ∀ x H', J.yld i H x H' → g1 x (wipe σ vs) H' fun σ2 H2 => wipe σ2 vs = wipe σ vs ∧ tt1 σ2 H2 fun b H3 =>
    if b = true then tLcIn wi2 g2 tt2 te vs2 D σ2 H3 Nx else Nx H3)
section
variable {X : Cx} {elt t1 it1 t2 it2 : Expr} {ifs1 ifs2 : List Expr} {scope : Scope} {pos : Pos} {wi1 wi2 : TI} {g1 g2 : TG} {tt1 tt2 : TT} {te : TE} {vs vs2 : List Nat}
theorem lc2_in (hx : X.xe = fun _ _ => False) (hc : X.calm = true) (hi : PI X t2 it2 wi2) (pg : PG X t2 g2) (pt : PTs X ifs2 tt2) (pe : PE X elt te) {pins : List (Addr × Obj)} {s : Shared} {σ : L2.St} {H : Hp} {D : Addr} {Nx : Hp → Prop} (I : Inv X pins σ H s) (h : tLcIn wi2 g2 tt2 te vs2 D σ H Nx) :
    wpAny (model X.prog X.w) X.A (eval it2 X.env) (fun xv s1 => wpAny (model X.prog X.w) X.A (pyIter xv) (fun itv s2 => ∀ (R : Result → Shared → Prop), (∀ s' H', Inv X pins (wipe σ vs2) H' s' → Nx H' → R (.ok .next) s') →
      codeAny (model X.prog X.w) X.A (.compStart (.ListComp elt [⟨t1, it1, ifs1, 0⟩, ⟨t2, it2, ifs2, 0⟩] scope pos) 1 itv (.ref D) X.env) R s2) (fun _ _ => False) s1) (fun _ _ => False) s := by
  have key := hi.run pins s σ H _ I h
  rw [hx] at key
  refine wpAny_mono key (fun xv s1 h1 => wpAny_mono h1 (fun itv s2 h2 => ?_) fun _ _ z => z) fun _ _ z => z
  obtain ⟨it, fp, tn, J, H2, e, I2, T, st2, f2, W, ⟨m0, w0⟩, turn⟩ := h2
  subst e
  intro R fin
  have stat : ∀ {H' : Hp}, (∀ b ∈ fp, H' b = none) → ∀ b ∈ fp, FpOk X pins H' b := fun hn b hb => ⟨hn b hb, (f2 b hb).2⟩
  have I2w : Inv X pins (wipe σ vs2) H2 s2 := I2.weak (wipe_length ..) (fun j v e => (wipe_some e).1)
  have loop : codeAny (model X.prog X.w) X.A (.compLoop (.ListComp elt [⟨t1, it1, ifs1, 0⟩, ⟨t2, it2, ifs2, 0⟩] scope pos) 1 (.ref it) (.ref D) X.env) R s2 := by
    refine codeAny_loop rfl (fun n s' => ∃ i H', Inv X pins (wipe σ vs2) H' s' ∧ tn i s'.heap ∧ (∀ b ∈ fp, H' b = none) ∧ W i n H') ?_ m0 ⟨0, H2, I2w, st2, fun b hb => (f2 b hb).1, w0⟩
    rintro n s3 ⟨i, H3, I3, st3, fr3, w3⟩
    show wpAny _ X.A ((compTurn (.ListComp elt [⟨t1, it1, ifs1, 0⟩, ⟨t2, it2, ifs2, 0⟩] scope pos) 1 (.ref it) (.ref D) X.env).onRaise (fun x => do noteFrame x X.env; theTreesLotGoes x)) _ _ s3
    refine wpAny_noted ?_
    rw [compTurn_list2_in]
    refine wpAny_bind (wpAny_standAt ?_)
    rcases turn i n H3 w3 with ⟨stop, qn⟩ | ⟨go, N2, hN, step⟩
    · refine wpAny_bind (thnF (T.done X rfl rfl rfl hc i pins s3 _ H3 (fun _ _ => False) I3 (stat fr3) st3 stop) fun r s4 hr => ?_)
      obtain ⟨hr, I4⟩ := hr
      subst hr
      exact wpAny_pure (fin s4 H3 I4 qn)
    · refine wpAny_bind (thnF (T.item X rfl rfl rfl hc i pins s3 _ H3 (fun _ _ => False) I3 (stat fr3) st3 go) fun r s4 hr => ?_)
      obtain ⟨u, hr, h4⟩ := hr
      subst hr
      refine wpAny_bind (thnF h4 fun _ s5 h5 => ?_)
      obtain ⟨x, H5, I5, r5, y5, st5, fr5⟩ := h5
      have I5' := I5.pinned (stat fr5) (T.obj _ _ st5)
      have kg := pg.run _ s5 _ H5 x u _ I5' r5 (step x H5 y5)
      rw [hx] at kg
      refine wpAny_bind (thnF kg fun _ s6 h6 => ?_)
      obtain ⟨σ6, H6, I6, hw6, q6⟩ := h6
      have kt := pt.run _ s6 σ6 H6 _ I6 q6
      rw [hx] at kt
      refine wpAny_bind (thnF kt fun b s7 h7 => ?_)
      obtain ⟨H7, I7, q7⟩ := h7
      have again : ∀ {s' : Shared} {H' : Hp}, Inv X (pins ++ pinsAt fp s5.heap) σ6 H' s' → N2 H' → ∃ m, m < n ∧ ∃ i H', Inv X pins (wipe σ vs2) H' s' ∧ tn i s'.heap ∧ (∀ b ∈ fp, H' b = none) ∧ W i m H' := fun {s' H'} I' n7 => by
        obtain ⟨m', hm, w7⟩ := hN H' n7
        have hl : (wipe σ vs2).length = σ6.length := by rw [← hw6, wipe_length]
        refine ⟨m', hm, i + 1, H', (I'.unpinned (pins := pins)).weak hl (fun j v e => ?_), T.keep _ _ _ st5 fun b hb o e => (I'.pin (b, o) (List.mem_append_right _ (List.mem_append_right _ (mem_pinsAt hb e)))).1, fun b hb => ?_, w7⟩
        · rw [← hw6] at e
          exact (wipe_some e).1
        · obtain ⟨o, e, d⟩ := T.obj _ _ st5 b hb
          exact (I'.pin (b, o) (List.mem_append_right _ (List.mem_append_right _ (mem_pinsAt hb e)))).2.1
      cases b with
      | false =>
        simp only [Bool.false_eq_true, if_false] at q7 ⊢
        exact wpAny_pure ⟨rfl, again I7 q7⟩
      | true =>
        simp only [if_true] at q7 ⊢
        have ke := pe.run _ s7 σ6 H7 _ I7 q7
        rw [hx] at ke
        refine wpAny_bind (wpAny_bind (thnF ke fun z s8 h8 => ?_))
        obtain ⟨yv, H8, I8, r8, acc, hD8, hz8, nx⟩ := h8
        exact wpAny_bind (app_ok (X := X) I8 hD8 hz8 r8 fun s9 I9 => wpAny_pure (wpAny_pure ⟨rfl, again I9 nx⟩))
  exact compStart_list2_in loop (T.self X.A 0 _ _ _ st2 loop)
theorem lc2_core {own : List (Str × Nat)} (hc : X.calm = true) (hN : X.N.Nodup) (first : PI X t1 it1 wi1) (ok : BlkOk X.N X.env.scope scope own) (sub : ∀ j ∈ vs2, j ∈ own.map (·.2))
    (P1 : ∀ (s : Shared) (H : Hp) (C : Addr) (cl : List (Str × Addr)) (fp : List Addr), PG (X.blk s H scope (compEnvC scope cl C X.env) fp) t1 g1) (C1 : ∀ (s : Shared) (H : Hp) (C : Addr) (cl : List (Str × Addr)) (fp : List Addr), PTs (X.blk s H scope (compEnvC scope cl C X.env) fp) ifs1 tt1)
    (I2 : ∀ (s : Shared) (H : Hp) (C : Addr) (cl : List (Str × Addr)) (fp : List Addr), PI (X.blk s H scope (compEnvC scope cl C X.env) fp) t2 it2 wi2)
    (P2 : ∀ (s : Shared) (H : Hp) (C : Addr) (cl : List (Str × Addr)) (fp : List Addr), PG (X.blk s H scope (compEnvC scope cl C X.env) fp) t2 g2) (C2 : ∀ (s : Shared) (H : Hp) (C : Addr) (cl : List (Str × Addr)) (fp : List Addr), PTs (X.blk s H scope (compEnvC scope cl C X.env) fp) ifs2 tt2)
    (el : ∀ (s : Shared) (H : Hp) (C : Addr) (cl : List (Str × Addr)) (fp : List Addr), PE (X.blk s H scope (compEnvC scope cl C X.env) fp) elt te)
    (h1 : ∀ x, foldedSetIterable it1 X.env x = pure x ) (h2 : ∀ (C : Addr) (cl : List (Str × Addr)) x, foldedSetIterable it2 (compEnvC scope cl C X.env) x = pure x ) {pins : List (Addr × Obj)} {s : Shared} {σ : L2.St} {H : Hp} {Q : VK} {use : Option (Value → Sem Unit)} {Qf : Value → Shared → Prop} (I : Inv X pins σ H s) (rd : tLc2 wi1 g1 tt1 wi2 g2 tt2 te (own.map (·.2)) vs2 σ H Q)
    (behind : ∀ D C s' m H', Inv X pins σ H' s' → Q (.ref D) H' → s'.heap.Ns C m → FpOk X pins H' C → compPost (model X.prog X.w) X.A X.xe use Qf (.ref D) C (.ok .next) s') :
    wpAny (model X.prog X.w) X.A (comprehension (.ListComp elt [⟨t1, it1, ifs1, 0⟩, ⟨t2, it2, ifs2, 0⟩] scope pos) scope X.env (firstIterPos [⟨t1, it1, ifs1, 0⟩, ⟨t2, it2, ifs2, 0⟩] pos) (newList []) false (eval it1 X.env) use) Qf X.xe s := by
  have closed : ∀ y ∈ scope.names, y.2 = .free → ∃ c, X.env.cells.lookup y.1 = some c := fun y hy e =>
    (ok.free y hy e).elim (fun k => I.ok.has _ (.inl k)) (fun k => I.ok.has _ (.inr k))
  refine wpAny_comprehension_free (use := use) rfl h1 (closure_ok closed) ok.kind (fun y hy e => by rw [ok.uniq y hy, e]) (thn (first.run pins s σ H _ I rd) fun xv sA hA => thn hA fun itv sB hB => ?_)
  obtain ⟨it, fp, tn, J, HB, rfl, IB, T, stB, fB, q⟩ := hB
  refine wpAny_newObj_type (newEnv_comp ?_) (by show 0 ≤ sizeLine; decide)
  generalize hD : sB.heap.objs.size = D
  have noD : HB D = none := IB.hok.fresh (Nat.le_of_eq hD)
  obtain ⟨W, ⟨m0, w0⟩, turn⟩ := q D noD
  generalize hs3 : ({ sB with heap := sB.heap.push { cls := .type "list", data := .seq ([] : List Value).toArray } } : Shared) = s3
  have I3 : Inv X pins σ (upd HB D (.lst [])) s3 := by
    rw [← hs3]
    exact IB.laid (t' := sB.toks) (fun b o e => Heap.get?_push_of_some _ e) (Nat.le_of_eq hD) ⟨Nat.zero_le _, [], 0, .nil, by rw [← hD]; exact Heap.get?_push_size _ rfl⟩
  have h3 : s3.heap = sB.heap.push { cls := .type "list", data := .seq ([] : List Value).toArray } := by rw [← hs3]
  have f3 : ∀ b ∈ fp, FpOk X pins (upd HB D (.lst [])) b ∧ b < s3.heap.objs.size := fun b hb => by
    obtain ⟨o, e, _⟩ := T.obj _ _ stB b hb
    have lt : b < sB.heap.objs.size := Heap.lt_size e
    have ne : b ≠ D := by rw [← hD]; exact Nat.ne_of_lt lt
    exact ⟨⟨by rw [upd_ne ne]; exact (fB b hb).1, (fB b hb).2⟩, by rw [h3, Heap.size_push]; exact Nat.lt_succ_of_lt lt⟩
  have st3 : tn 0 s3.heap := T.keep _ _ _ stB fun b _ o e => by rw [h3]; exact Heap.get?_push_of_some _ e
  have I4 := block_start I3 ok hN f3
  have p1 := P1 s3 (upd HB D (.lst [])) s3.heap.objs.size (cellsFrom (s3.heap.objs.size + 1) scope.names (cloFrom X.env.cells scope.names [])) fp
  have c1 := C1 s3 (upd HB D (.lst [])) s3.heap.objs.size (cellsFrom (s3.heap.objs.size + 1) scope.names (cloFrom X.env.cells scope.names [])) fp
  have i2 := I2 s3 (upd HB D (.lst [])) s3.heap.objs.size (cellsFrom (s3.heap.objs.size + 1) scope.names (cloFrom X.env.cells scope.names [])) fp
  have p2 := P2 s3 (upd HB D (.lst [])) s3.heap.objs.size (cellsFrom (s3.heap.objs.size + 1) scope.names (cloFrom X.env.cells scope.names [])) fp
  have c2 := C2 s3 (upd HB D (.lst [])) s3.heap.objs.size (cellsFrom (s3.heap.objs.size + 1) scope.names (cloFrom X.env.cells scope.names [])) fp
  have e2 := el s3 (upd HB D (.lst [])) s3.heap.objs.size (cellsFrom (s3.heap.objs.size + 1) scope.names (cloFrom X.env.cells scope.names [])) fp
  have fold2 := h2 s3.heap.objs.size (cellsFrom (s3.heap.objs.size + 1) scope.names (cloFrom X.env.cells scope.names []))
  show codeAny _ _ (.compStart (.ListComp elt [⟨t1, it1, ifs1, 0⟩, ⟨t2, it2, ifs2, 0⟩] scope pos) 0 (.ref it) (.ref D) (compEnvC scope (cellsFrom (s3.heap.objs.size + 1) scope.names (cloFrom X.env.cells scope.names [])) s3.heap.objs.size X.env)) (compPost (model X.prog X.w) X.A X.xe use Qf (.ref D) s3.heap.objs.size) { s3 with heap := pushCells (s3.heap.push { cls := .type "dict", data := .dict #[] }) scope.names }
  have nfp : ∀ b ∈ fp, (upd HB D (.lst [])) b = none := fun b hb => (f3 b hb).1.1
  generalize hce : compEnvC scope (cellsFrom (s3.heap.objs.size + 1) scope.names (cloFrom X.env.cells scope.names [])) s3.heap.objs.size X.env = ce at I4 p1 c1 i2 p2 c2 e2 fold2 ⊢
  have cL : ce.locals = s3.heap.objs.size := by subst hce; rfl
  generalize hH3 : upd HB D (.lst []) = H3 at I3 I4 p1 c1 i2 p2 c2 e2 w0 nfp f3
  generalize hs4 : ({ s3 with heap := pushCells (s3.heap.push { cls := .type "dict", data := .dict #[] }) scope.names } : Shared) = s4 at I4 ⊢
  have st4 : tn 0 s4.heap := T.keep _ _ _ st3 fun b _ o e => by rw [← hs4]; exact pushCells_keeps _ _ _ _ (Heap.get?_push_of_some _ e)
  have stat : ∀ {σ' : L2.St} {H' : Hp} {s' : Shared}, Inv (X.blk s3 H3 scope ce fp) [] σ' H' s' → (∀ b ∈ fp, H' b = none) → ∀ b ∈ fp, FpOk (X.blk s3 H3 scope ce fp) [] H' b := fun {σ' H' s'} I' hn b hb =>
    ⟨hn b hb, (I'.ok.exf b hb).1, I'.ok.exfs b hb, .inl hb, fun x c e => (I'.ok.exf b hb).2 x c e, fun p hp => absurd (show p ∈ ([] : List (Addr × Obj)) ++ [] from hp) (by simp)⟩
  have loop : codeAny (model X.prog X.w) X.A (.compLoop (.ListComp elt [⟨t1, it1, ifs1, 0⟩, ⟨t2, it2, ifs2, 0⟩] scope pos) 0 (.ref it) (.ref D) ce) (compPost (model X.prog X.w) X.A X.xe use Qf (.ref D) s3.heap.objs.size) s4 := by
    refine codeAny_loop rfl (fun n s' => ∃ i H', Inv (X.blk s3 H3 scope ce fp) [] (wipe σ (own.map (·.2))) H' s' ∧ tn i s'.heap ∧ (∀ b ∈ fp, H' b = none) ∧ W i n H') ?_ m0 ⟨0, H3, I4, st4, nfp, w0⟩
    rintro n s5 ⟨i, H5, I5, st5, n5, w5⟩
    show wpAny _ X.A ((compTurn (.ListComp elt [⟨t1, it1, ifs1, 0⟩, ⟨t2, it2, ifs2, 0⟩] scope pos) 0 (.ref it) (.ref D) ce).onRaise (fun x => do noteFrame x ce; theTreesLotGoes x)) _ _ s5
    refine wpAny_noted ?_
    rw [compTurn_list2_out]
    refine wpAny_bind (wpAny_standAt ?_)
    rcases turn i n H5 w5 with ⟨stop, qq⟩ | ⟨go, Nx, hNx, step⟩
    · refine wpAny_bind (thnF (T.done (X.blk s3 H3 scope ce fp) rfl rfl rfl hc i [] s5 _ H5 (fun _ _ => False) I5 (stat I5 n5) st5 stop) fun r s6 hr => ?_)
      obtain ⟨hr, I6⟩ := hr
      subst hr
      refine wpAny_pure ?_
      have I7 : Inv X pins σ H5 s6 := I3.call' (ch := fp) I6.os I6.base I6.hok I6.bare fun b hb => ⟨(f3 b hb).1.2.2.2.1, (f3 b hb).1.2.1, (f3 b hb).1.2.2.2.2.1, (f3 b hb).1.2.2.2.2.2⟩
      have nC : H5 s3.heap.objs.size = none := by
        have z : H5 ce.locals = none := I6.free
        rw [cL] at z
        exact z
      obtain ⟨m, hn, _⟩ := I6.loc
      have hn : s6.heap.Ns ce.locals m := hn
      rw [cL] at hn
      exact behind D s3.heap.objs.size s6 m H5 I7 qq hn (I3.fpOk (Nat.le_refl _) nC)
    · refine wpAny_bind (thnF (T.item (X.blk s3 H3 scope ce fp) rfl rfl rfl hc i [] s5 _ H5 (fun _ _ => False) I5 (stat I5 n5) st5 go) fun r s6 hr => ?_)
      obtain ⟨u, hr, h6⟩ := hr
      subst hr
      refine wpAny_bind (thnF h6 fun _ s7 h7 => ?_)
      obtain ⟨x, H7, I7, r7, y7, st7, n7⟩ := h7
      have I7' := I7.pinned (stat I7 n7) (T.obj _ _ st7)
      refine wpAny_bind (thnF (p1.run _ s7 _ H7 x u _ I7' r7 (step x H7 y7)) fun _ s8 h8 => ?_)
      obtain ⟨σ8, H8, I8, hw8, q8⟩ := h8
      refine wpAny_bind (thnF (c1.run _ s8 σ8 H8 _ I8 q8) fun b s9 h9 => ?_)
      obtain ⟨H9, I9, q9⟩ := h9
      have back : ∀ {s' : Shared} {σ' : L2.St} {H' : Hp}, Inv (X.blk s3 H3 scope ce fp) ([] ++ pinsAt fp s7.heap) σ' H' s' → (wipe σ (own.map (·.2))).length = σ'.length → (∀ (j : Nat) (v : V), (wipe σ (own.map (·.2)))[j]? = some (some v) → σ'[j]? = some (some v)) → Nx H' →
          ∃ m, m < n ∧ ∃ i H', Inv (X.blk s3 H3 scope ce fp) [] (wipe σ (own.map (·.2))) H' s' ∧ tn i s'.heap ∧ (∀ b ∈ fp, H' b = none) ∧ W i m H' := fun {s' σ' H'} I' hl hv nx => by
        obtain ⟨m', hm, w'⟩ := hNx H' nx
        refine ⟨m', hm, i + 1, H', (I'.unpinned (pins := [])).weak hl hv, T.keep _ _ _ st7 fun b hb o e => (I'.pin (b, o) (List.mem_append_right _ (List.mem_append_right _ (mem_pinsAt hb e)))).1, fun b hb => ?_, w'⟩
        obtain ⟨o, e, _⟩ := T.obj _ _ st7 b hb
        exact (I'.pin (b, o) (List.mem_append_right _ (List.mem_append_right _ (mem_pinsAt hb e)))).2.1
      have hl8 : (wipe σ (own.map (·.2))).length = σ8.length := by rw [← hw8, wipe_length]
      cases b with
      | false =>
        simp only [Bool.false_eq_true, if_false] at q9 ⊢
        exact wpAny_pure ⟨rfl, back I9 hl8 (fun j v e => by rw [← hw8] at e; exact (wipe_some e).1) q9⟩
      | true =>
        simp only [if_true] at q9 ⊢
        refine wpAny_bind (thnF (lc2_in (X := X.blk s3 H3 scope ce fp) (t1 := t1) (it1 := it1) (ifs1 := ifs1) (scope := scope) (pos := pos) rfl hc i2 p2 c2 e2 I9 q9) fun xv s10 h10 => ?_)
        refine wpAny_bind (wpAny_standAt (wpAny_bind (wpAny_of_eq (fold2 xv) ?_)))
        refine wpAny_bind (wpAny_holding (thnF h10 fun itv s11 h11 => ?_))
        refine wpAny_bind (wpAny_runOwn ?_)
        refine h11 _ fun s' H' I' nx => ?_
        refine wpAny_pure ⟨rfl, back I' (by rw [wipe_length, wipe_length]; rw [wipe_length] at hl8; exact hl8) (fun j v e => ?_) nx⟩
        rw [← hw8] at e
        have z := wipe_some e
        rw [wipe_out fun hj => z.2 (sub j hj)]
        exact z.1
  exact codeAny_compStart_list loop (T.self X.A 0 _ _ _ st4 loop)
/-- [elt for t1 in it1 if .. for t2 in it2 if ..] -/
theorem pe_lc2 {own : List (Str × Nat)} (hc : X.calm = true) (hN : X.N.Nodup) (first : PI X t1 it1 wi1) (ok : BlkOk X.N X.env.scope scope own) (sub : ∀ j ∈ vs2, j ∈ own.map (·.2))
    (P1 : ∀ (s : Shared) (H : Hp) (C : Addr) (cl : List (Str × Addr)) (fp : List Addr), PG (X.blk s H scope (compEnvC scope cl C X.env) fp) t1 g1) (C1 : ∀ (s : Shared) (H : Hp) (C : Addr) (cl : List (Str × Addr)) (fp : List Addr), PTs (X.blk s H scope (compEnvC scope cl C X.env) fp) ifs1 tt1)
    (I2 : ∀ (s : Shared) (H : Hp) (C : Addr) (cl : List (Str × Addr)) (fp : List Addr), PI (X.blk s H scope (compEnvC scope cl C X.env) fp) t2 it2 wi2)
    (P2 : ∀ (s : Shared) (H : Hp) (C : Addr) (cl : List (Str × Addr)) (fp : List Addr), PG (X.blk s H scope (compEnvC scope cl C X.env) fp) t2 g2) (C2 : ∀ (s : Shared) (H : Hp) (C : Addr) (cl : List (Str × Addr)) (fp : List Addr), PTs (X.blk s H scope (compEnvC scope cl C X.env) fp) ifs2 tt2)
    (el : ∀ (s : Shared) (H : Hp) (C : Addr) (cl : List (Str × Addr)) (fp : List Addr), PE (X.blk s H scope (compEnvC scope cl C X.env) fp) elt te)
    (h1 : ∀ x, foldedSetIterable it1 X.env x = pure x := by intro _; rfl) (h2 : ∀ (C : Addr) (cl : List (Str × Addr)) x, foldedSetIterable it2 (compEnvC scope cl C X.env) x = pure x := by intro _ _ _; rfl) :
    PE X (.ListComp elt [⟨t1, it1, ifs1, 0⟩, ⟨t2, it2, ifs2, 0⟩] scope pos) (tLc2 wi1 g1 tt1 wi2 g2 tt2 te (own.map (·.2)) vs2) := by
  refine ⟨fun pins s σ H Q I rd => ?_⟩
  rw [eval_ListComp]
  refine lc2_core hc hN first ok sub P1 C1 I2 P2 C2 el h1 h2 I rd fun D C s' m H' I' q hn f => ⟨m, hn, fun h'' sb => ?_⟩
  obtain ⟨f0, f1, f2, f3, f4, f5⟩ := f
  exact ⟨.ref D, H', I'.turned (t' := s'.toks) (fun b o hb e => (sb.2 b hb).trans e) f0 f1 f3 f4 f5, rfl, q⟩
/-- name = [..] on one row, the name a local -/
theorem ps_setLc2 {i : Nat} {y : Str} {py spos : Pos} {own : List (Str × Nat)} (hc : X.calm = true) (hN : X.N.Nodup) (hy : X.N[i]? = some y) (hyl : X.env.scope.names.lookup y = some .local)
    (hsw : swapsWith (.ListComp elt [⟨t1, it1, ifs1, 0⟩, ⟨t2, it2, ifs2, 0⟩] scope pos) (some (.Name y py)) spos.line X.env = pure true) (first : PI X t1 it1 wi1) (ok : BlkOk X.N X.env.scope scope own) (sub : ∀ j ∈ vs2, j ∈ own.map (·.2))
    (P1 : ∀ (s : Shared) (H : Hp) (C : Addr) (cl : List (Str × Addr)) (fp : List Addr), PG (X.blk s H scope (compEnvC scope cl C X.env) fp) t1 g1) (C1 : ∀ (s : Shared) (H : Hp) (C : Addr) (cl : List (Str × Addr)) (fp : List Addr), PTs (X.blk s H scope (compEnvC scope cl C X.env) fp) ifs1 tt1)
    (I2 : ∀ (s : Shared) (H : Hp) (C : Addr) (cl : List (Str × Addr)) (fp : List Addr), PI (X.blk s H scope (compEnvC scope cl C X.env) fp) t2 it2 wi2)
    (P2 : ∀ (s : Shared) (H : Hp) (C : Addr) (cl : List (Str × Addr)) (fp : List Addr), PG (X.blk s H scope (compEnvC scope cl C X.env) fp) t2 g2) (C2 : ∀ (s : Shared) (H : Hp) (C : Addr) (cl : List (Str × Addr)) (fp : List Addr), PTs (X.blk s H scope (compEnvC scope cl C X.env) fp) ifs2 tt2)
    (el : ∀ (s : Shared) (H : Hp) (C : Addr) (cl : List (Str × Addr)) (fp : List Addr), PE (X.blk s H scope (compEnvC scope cl C X.env) fp) elt te)
    (h1 : ∀ x, foldedSetIterable it1 X.env x = pure x := by intro _; rfl) (h2 : ∀ (C : Addr) (cl : List (Str × Addr)) x, foldedSetIterable it2 (compEnvC scope cl C X.env) x = pure x := by intro _ _ _; rfl) :
    PS X (.Assign [.Name y py] (.ListComp elt [⟨t1, it1, ifs1, 0⟩, ⟨t2, it2, ifs2, 0⟩] scope pos) spos) (tAsg (tLc2 wi1 g1 tt1 wi2 g2 tt2 te (own.map (·.2)) vs2) (gName i)) := by
  refine ⟨fun pins s σ H D I h => ?_⟩
  rw [exec_Assign_Name_used _ _ _ _ hsw]
  refine wpAny_bind (wpAny_standAt (wpAny_bind ?_))
  show wpAny _ X.A (do let _ ← comprehension (.ListComp elt [⟨t1, it1, ifs1, 0⟩, ⟨t2, it2, ifs2, 0⟩] scope pos) scope X.env (firstIterPos [⟨t1, it1, ifs1, 0⟩, ⟨t2, it2, ifs2, 0⟩] pos) (newList []) false (eval it1 X.env) (some (assign (.Name y py) X.env))) _ _ s
  have h : tLc2 wi1 g1 tt1 wi2 g2 tt2 te (own.map (·.2)) vs2 σ H (fun x H1 => gName i x σ H1 D.nx) := h
  refine wpAny_bind (thn (lc2_core (Qf := fun _ s' => SP X pins D .next s') hc hN first ok sub P1 C1 I2 P2 C2 el h1 h2 I h fun L C s' m H' I' q hn f => ?_) fun _ s' hq => wpAny_pure (wpAny_pure hq))
  show wpAny _ _ (assign (.Name y py) X.env (.ref L)) _ _ _
  refine wpAny_assign_Name (store_ok2 (v := V.ref L) I' hN hy (.inl hyl) rfl (fun s2 J ⟨a, sb, ha⟩ => ?_) (.inr hyl))
  obtain ⟨f0, f1, f2, f3, f4, f5⟩ := f
  have ne : C ≠ a := ha.elim (fun z => by rw [z]; exact f1) fun z e => f4 y a z e.symm
  exact ⟨m, hn.sameBut sb ne, fun h3 sb3 => ⟨_, H', J.turned (t' := s2.toks) (fun b o hb e => (sb3.2 b hb).trans e) f0 f1 f3 f4 f5, q⟩⟩
end
end My

set_option Elab.async false
set_option linter.all false
set_option maxRecDepth 100000
set_option maxHeartbeats 4000000
/-! ### [te for p in range(m) for q in range(n)] -/
namespace My
open PySem L2
theorem it_range {m : Nat} {W0 : Hp → Prop} (Pv : Nat → Hp → Prop) {H : Hp} (h0 : Pv 0 H) {Nx : Hp → Prop} {g : TG} {tt : TT} {te : TE} {vs : List Nat} {σ : L2.St} {D : Addr}
    (step : ∀ i H', i < m → Pv i H' → g (.int (i : Nat)) (wipe σ vs) H' fun σ2 H2 => wipe σ2 vs = wipe σ vs ∧ tt σ2 H2 fun b H3 => if b = true then te σ2 H3 fun y H4 => ∃ acc, H4 D = some (.lst acc) ∧ acc.length < sizeLine ∧ Pv (i + 1) (upd H4 D (.lst (acc ++ [y]))) else Pv (i + 1) H3)
    (fin : ∀ H', Pv m H' → Nx H') : ∃ W : Nat → Nat → Hp → Prop, (∃ k, W 0 k H) ∧ ∀ i k H, W i k H →
  ((Itr 0 m).stop i H ∧ Nx H) ∨ ((Itr 0 m).go i H ∧ ∃ N2 : Hp → Prop, (∀ H', N2 H' → ∃ m', m' < k ∧ W (i + 1) m' H') ∧ ∀ x H', (Itr 0 m).yld i H x H' → g x (wipe σ vs) H' fun σ2 H2 => wipe σ2 vs = wipe σ vs ∧ tt σ2 H2 fun b H3 =>
    if b = true then te σ2 H3 fun y H4 => ∃ acc, H4 D = some (.lst acc) ∧ acc.length < sizeLine ∧ N2 (upd H4 D (.lst (acc ++ [y]))) else N2 H3) := by
  refine ⟨fun i k H => k + i = m ∧ Pv i H, ⟨m, rfl, h0⟩, fun i k H h => ?_⟩
  obtain ⟨e, p⟩ := h
  rcases Nat.lt_or_ge i m with lt | ge
  · refine .inr ⟨lt, Pv (i + 1), fun H' p' => ⟨k - 1, by omega, by omega, p'⟩, fun x H' y => ?_⟩
    obtain ⟨rfl, rfl⟩ := y
    rw [Int.zero_add]
    exact step i H' lt p
  · have z : i = m := by omega
    exact .inl ⟨by subst z; first | rfl | exact Nat.le_refl _, fin H (by rw [← z]; exact p)⟩
theorem lc2Rg {ta tb : TA} {te : TE} {σ : L2.St} {H : Hp} {Q : VK} {p q : Nat} (m n : Nat) (hm : m ≤ 1000) (hn : n ≤ 1000) (Pv : Addr → Nat → Nat → Hp → Prop)
    (ha : ∀ R : List V → Hp → Prop, R [.int (m : Nat)] H → ta σ H R)
    (hb : ∀ (D : Addr) (i : Nat) (H' : Hp) (R : List V → Hp → Prop), H D = none → i < m → Pv D i 0 H' → R [.int (n : Nat)] H' → tb ((wipe σ [p, q]).set p (some (.int (i : Nat)))) H' R)
    (hw1 : ∀ x, wipe ((wipe σ [p, q]).set p (some x)) [p, q] = wipe σ [p, q])
    (hw2 : ∀ x y, wipe ((wipe ((wipe σ [p, q]).set p (some x)) [q]).set q (some y)) [q] = wipe ((wipe σ [p, q]).set p (some x)) [q])
    (h0 : ∀ D, H D = none → Pv D 0 0 (upd H D (.lst [])))
    (body : ∀ (D : Addr) (i j : Nat) (H' : Hp), H D = none → i < m → j < n → Pv D i j H' → te ((wipe ((wipe σ [p, q]).set p (some (.int (i : Nat)))) [q]).set q (some (.int (j : Nat)))) H' fun y H4 => ∃ acc, H4 D = some (.lst acc) ∧ acc.length < sizeLine ∧ Pv D i (j + 1) (upd H4 D (.lst (acc ++ [y]))))
    (nextRow : ∀ (D : Addr) (i : Nat) (H' : Hp), Pv D i n H' → Pv D (i + 1) 0 H') (fin : ∀ D H', H D = none → Pv D m 0 H' → Q (.ref D) H') :
    tLc2 (iRng1 ta) (gName p) tYes (iRng1 tb) (gName q) tYes te [p, q] [q] σ H Q := by
  refine ha _ ⟨(m : Nat), rfl, by omega, by omega, fun D nD => ?_⟩
  rw [Int.toNat_natCast]
  refine ⟨fun i k H' => k + i = m ∧ Pv D i 0 H', ⟨m, rfl, h0 D nD⟩, fun i k H1 h => ?_⟩
  obtain ⟨e, pv⟩ := h
  rcases Nat.lt_or_ge i m with lt | ge
  · refine .inr ⟨lt, Pv D (i + 1) 0, fun H' p' => ⟨k - 1, by omega, by omega, p'⟩, fun x H' y => ?_⟩
    obtain ⟨rfl, rfl⟩ := y
    rw [Int.zero_add]
    refine ⟨hw1 _, ?_⟩
    simp only [tYes, if_true]
    refine hb D i H' _ nD lt pv ⟨(n : Nat), rfl, by omega, by omega, ?_⟩
    rw [Int.toNat_natCast]
    exact it_range (W0 := fun _ => True) (Pv D i) pv (fun j H2 hj pj => ⟨hw2 _ _, body D i j H2 nD lt hj pj⟩) fun H2 pj => nextRow D i H2 pj
  · have z : i = m := by omega
    exact .inl ⟨by subst z; first | rfl | exact Nat.le_refl _, fin D H1 nD (by rw [← z]; exact pv)⟩
end My

set_option Elab.async false
set_option linter.all false
set_option maxRecDepth 100000
/-! ### raised out of a walk of a dict: behind it the dict stands as before -/
namespace My
open PySem L2
/-- the same wish, asked where the walked dict is free again -/
def WLock (X : Cx) (W : WX) : WX := fun cls dx σ H => ∃ (d : Addr) (u : HO) (od : Obj), H d = some (.frz od u) ∧ (∀ o v, X.H_0 d ≠ some (.frz o v)) ∧ W cls dx σ (upd H d u)
theorem takes_lock {X : Cx} {W : WX} (tk : Takes X W) : Takes X (WLock X W) := by
  rintro e s' ⟨a, B, sI, pins, σ, H, cls, dx, rfl, I, nb, up, sky, na, os, ag, d, u, od, hd, nf, w⟩
  have ad : a ≠ d := fun z => by rw [z, hd] at na; cases na
  exact tk _ _ ⟨a, B, sI, pins, σ, upd H d u, cls, dx, rfl, I.unlock hd nf, nb, up, sky, by rw [upd_ne ad]; exact na, os, ag, w⟩
end My

set_option Elab.async false
set_option linter.all false
set_option maxRecDepth 100000
set_option maxHeartbeats 4000000
/-! ### defs that close over their class, and super().__init__(..) of an own error -/
namespace My
open PySem L2 NdefX
/-- a block whose activation is known -/
structure PSat (X : Cx) (c : Code) (body : List Stmt) (t : TS) : Prop where
  run : ∀ (pins : List (Addr × Obj)) (s : Shared) (σ : L2.St) (H : Hp) (D : Ends), Inv X pins σ H s → t D σ H → wpAt (model X.prog X.w) X.A c (execs body X.env) (SP X pins D) X.xe s
structure PSat1 (X : Cx) (c : Code) (st : Stmt) (t : TS) : Prop where
  run : ∀ (pins : List (Addr × Obj)) (s : Shared) (σ : L2.St) (H : Hp) (D : Ends), Inv X pins σ H s → t D σ H → wpAt (model X.prog X.w) X.A c (exec st X.env) (SP X pins D) X.xe s
theorem psat_of {X : Cx} {c : Code} {body : List Stmt} {t : TS} (h : PSs X body t) : PSat X c body t := ⟨fun pins s σ H D I q => wpAt_of_wpAny (h.run pins s σ H D I q)⟩
theorem psat_cons {X : Cx} {c : Code} {st : Stmt} {rest : List Stmt} {t u : TS} (h1 : PSat1 X c st t) (h2 : PSs X rest u) : PSat X c (st :: rest) (tSeq t u) := by
  refine ⟨fun pins s σ H D I q => ?_⟩
  refine PySem.ks_wpAt_execs_cons (wpAt_mono (h1.run pins s σ H { D with nx := u D } I q) (fun f s1 r => ?_) fun _ _ z => z)
  cases f with
  | next =>
    obtain ⟨σ', H', I', r⟩ := r
    exact wpAt_of_wpAny (h2.run pins s1 σ' H' D I' r)
  | brk => exact r
  | cont => exact r
  | ret u => exact r
/-- the words of a def that closes over its class -/
def nfOf (x qual : Str) (st : Stmt) (cc cda : Addr) : NF := ⟨x, qual, defArgs st, defBody st, defScope st, [("__class__", cc)], cda⟩
structure FunX (K : PySem.W.Frag) (x qual : Str) (st : Stmt) (f : Addr) (fd : FuncData) (cc cda D : Addr) : Prop where
  ex : ∃ (oc : Value) (od : Option Addr) (kV doc pm : Value) (an : Option Addr) (ct : Value) (osl : Array (Option Value)),
    fd = PySem.W.fnX x qual (defArgs st) (defBody st) (defScope st) [("__class__", cc)] .none kV doc pm an (.ref cda) ct ∧ K.lookup f = some ⟨oc, od, .func fd, osl⟩ ∧ PySem.W.codeIn K (.ref cda) qual = true
  cell : ∃ (cl : Value) (cld : Option Addr) (csl : Array (Option Value)), K.lookup cc = some ⟨cl, cld, .cell (some (.ref D)), csl⟩
  kp : PySem.W.keepIn K (.ref f) = true
section
variable {P : Program} {w : World} {K : PySem.W.Frag} {mg : Str → Option Value} {base : Heap}
abbrev cxX (CX : CXT) (P : Program) (w : World) (K : PySem.W.Frag) (mg : Str → Option Value) (base : Heap) (N : List Str) (x qual : Str) (st : Stmt) (cc cda f : Addr) (A : Around) (outer : List Env) (s : Shared) (H : Hp) (E : XK) : Cx := ncx CX P w K mg base N (nfOf x qual st cc cda) f A outer s H E
theorem FunX.ok {CX : CXT} {x qual : Str} {st : Stmt} {f cc cda D : Addr} {fd : FuncData} {N ps : List Str} {k : Nat} {sp : Sp} (F : FunX K x qual st f fd cc cda D) (S : NScope N ps ["__class__"] (defScope st)) (len : ∀ vs H Q E, sp vs H Q E → vs.length = ps.length)
    (hbody : ∀ (A : Around) (outer : List Env) (s : Shared) (H : Hp) (vs : List V) (Q : VK) (E : XK), Room k (A.deeper (envF (nfOf x qual st cc cda) f s.heap.objs.size)) → sp vs H Q E →
      ∃ t, PSat (cxX CX P w K mg base N x qual st cc cda f A outer s H E) (.func (defBody st) (envF (nfOf x qual st cc cda) f s.heap.objs.size)) (defBody st) t ∧ t { nx := fun _ H' => Q .non H', rt := Q } (startF N vs [some (.ref D)]) H) :
    FnOk P w K mg base CX (k + 1) f fd ps sp := by
  obtain ⟨oc, od, kV, doc, pm, an, ct, osl, rfl, lk, hcd⟩ := F.ex
  obtain ⟨cl, cld, csl, hcc⟩ := F.cell
  refine ⟨len, fun A outer s H args us vs Q E hr e0 hb r hsp => ?_⟩
  have hl := len _ _ _ _ hsp
  have KX : K.In s.heap := e0.mod.kin.keeps fun b o e => (e0.bs b o e).1
  have lim : s.heap.NoLimit := e0.mod.nolimit.keeps fun b o e => (e0.bs b o e).1
  have hcB := e0.mod.kin _ _ hcc
  have C : CellsAt (nfOf x qual st cc cda).cl ["__class__"] [some (.ref D)] s.heap H := by
    refine ⟨rfl, fun y c e => ?_, fun a b c e1 e2 => ?_, fun i y e => ?_⟩
    · have e' : (if y = ("__class__" : Str) then some cc else none) = some c := by
        rw [← e]
        show _ = List.lookup y [(("__class__" : Str), cc)]
        rw [List.lookup_cons, List.lookup_nil]
        by_cases h : y = ("__class__" : Str)
        · rw [if_pos h, beq_iff_eq.mpr h]
        · rw [if_neg h, beq_eq_false_iff_ne.mpr h]
      split at e'
      · cases e'
        exact ⟨(e0.bs _ _ hcB).2, _, _, KX _ _ hcc, rfl⟩
      · cases e'
    · have g : ∀ (y : Str) (d : Addr), List.lookup y [(("__class__" : Str), cc)] = some d → y = "__class__" := by
        intro y d e
        rw [List.lookup_cons, List.lookup_nil] at e
        by_cases h : y = ("__class__" : Str)
        · exact h
        · rw [beq_eq_false_iff_ne.mpr h] at e
          cases e
      exact (g a c e1).trans (g b c e2).symm
    · match i, e with
      | 0, e =>
        have ey : y = "__class__" := (Option.some.inj e).symm
        subst ey
        exact ⟨cc, rfl, fun v hv => ⟨.ref D, by cases hv; rfl, _, KX _ _ hcc, rfl⟩⟩
      | i + 1, e => cases e
  refine PySem.ks_codeAny_call_defAt (fd := PySem.W.fnX x qual (defArgs st) (defBody st) (defScope st) [("__class__", cc)] .none kV doc pm an (.ref cda) ct) (body := defBody st) (binds := ps.zip us) hr.depth (KX _ _ lk) rfl lim (PySem.W.codeRec_of KX hcd) rfl hb S.nocell (fun ⟨n, v⟩ hy => S.par n (List.of_mem_zip hy).1) (fun h₁ hns kp => ?_) S.co S.gen S.kind
  obtain ⟨t, ht, hq⟩ := hbody A outer s H vs Q E (hr.deeper _) hsp
  have I : Inv (cxX CX P w K mg base N x qual st cc cda f A outer s H E) [] (startF N vs [some (.ref D)]) H { s with heap := h₁, toks := s.toks + (ps.zip us).length } := inv_startN S hr.hd e0 hl r C hns kp
  refine wpAt_mono (ht.run [] _ (startF N vs [some (.ref D)]) H _ I hq) (fun fl s' hs => ?_) fun e s' hs => hs
  have fin : ∀ {σ' : L2.St} {H' : Hp} {v : V} {u : Value}, Inv (cxX CX P w K mg base N x qual st cc cda f A outer s H E) [] σ' H' s' → L2.RelV v u → Q v H' → CE outer P w H s Q u s' :=
    fun {σ' H' v u} J rv q => ⟨v, H', J.os, J.bare, J.base, J.hok, rv, q⟩
  cases fl with
  | ret u =>
    obtain ⟨v, σ', H', J, rv, q⟩ := hs
    exact fin J rv q
  | next =>
    obtain ⟨σ', H', J, q⟩ := hs
    exact fin (v := V.non) (u := Value.none) J rfl q
  | brk =>
    obtain ⟨_, _, _, q⟩ := hs
    exact False.elim q
  | cont =>
    obtain ⟨_, _, _, q⟩ := hs
    exact False.elim q
end

/-! ### super().__init__(e) -/
/-- what the written part says of an own error that is made by an __init__ of its own: OexC, its place in the chain -/
structure ErrC (K : PySem.W.Frag) (C : Addr) : Prop where
  ox : OexC K C
  sup : PySem.W.ks_superIn K C C "__init__" = some (some (.builtin "ValueError.__init__"))
  isV : PySem.W.subIn K (.ref C) (.type "ValueError") = some true
  opq : PySem.W.nsIn K cStatics "thirdparty.any" = some none
  me : PySem.W.mroIn K C (.ref C) = some true
/-- what the code object of the def tells -/
structure CodeF (K : PySem.W.Frag) (P : Program) (cda : Addr) : Prop where
  at_ : ∃ (ccl : Value) (cdd : Option Addr) (vs : Array Value) (ccs : Array (Option Value)) (file : Str) (tf : Tok), K.lookup cda = some ⟨ccl, cdd, .fields vs, ccs⟩ ∧ vs[2]? = some (.str file tf) ∧ ((P.main.file : Str) == file) = true
  noTop : (P.main.scope.names.lookup ("super" : Str)).isSome = false
/-- the reading: the text is reckoned, nothing more -/
def tSupI (C : Addr) (ta : TA) : TS := fun D σ H => ∃ a : Addr, σ[0]? = some (some (.ref a)) ∧ H a = some (exo a C none) ∧ ta σ H fun vs H1 => vs.length ≤ 1000 ∧ H1 a = some (exo a C none) ∧ D.nx σ H1
section
variable {X : Cx}
theorem psat_sup {body : List Stmt} {f cc cda C : Addr} {fd : FuncData} {oc : Value} {od : Option Addr} {osl : Array (Option Value)} {cl : Value} {cld : Option Addr} {csl : Array (Option Value)} {ar : Arg} {e : Expr} {es : List Expr} {ta : TA} {p0 p1 apos cpos pos : Pos} {pl : Sem Bool}
    (T : ErrC X.K C) (G : CodeF X.K X.prog cda)
    (hf : X.K.lookup f = some ⟨oc, od, .func fd, osl⟩) (hp : (fd.params.posonlyargs ++ fd.params.args).head? = some ar)
    (hcell : X.K.lookup cc = some ⟨cl, cld, .cell (some (.ref C)), csl⟩) (hsuper : X.mg "super" = none)
    (hfu : X.env.func = some f) (hco : X.env.code = .ref cda) (hcl : X.env.cells.lookup ("__class__" : Str) = some cc)
    (hks : X.env.scope.names.lookup ("super" : Str) = some .globalImplicit) (hkc : X.env.scope.names.lookup ("__class__" : Str) = some .free) (hka : X.env.scope.names.lookup ar.arg = some .local)
    (hN : X.N[0]? = some ar.arg) (ha : PA X (e :: es) ta)
    (hev : eval (.Call (.Attribute (.Call (.Name "super" p0) [] [] p1) "__init__" apos) (e :: es) [] cpos) X.env = (do
      let ov ← attributeBase (.Call (.Name "super" p0) [] [] p1) "__init__" X.env (eval (.Call (.Name "super" p0) [] [] p1) X.env)
      standAt apos.atName
      let (f, first) ← holding [ov] (getMethod ov "__init__" pl)
      callWith cpos f first (backTo cpos (starEach (e :: es) X.env)) []))
    (hst : starEach (e :: es) X.env = (false, eval e X.env) :: starEach es X.env) (hpl : (backTo cpos (starEach es X.env)).any (·.1) = false)
    (hsw : swapsWith (.Call (.Attribute (.Call (.Name "super" p0) [] [] p1) "__init__" apos) (e :: es) [] cpos) none pos.line X.env = pure false) (hint : interactive X.env = false) :
    PSat1 X (.func body X.env) (.Expr (.Call (.Attribute (.Call (.Name "super" p0) [] [] p1) "__init__" apos) (e :: es) [] cpos) pos) (tSupI C ta) := by
  refine ⟨fun pins s σ H D I h => ?_⟩
  obtain ⟨a, hσ, ea, q⟩ := h
  obtain ⟨ccl, cdd, vs, ccs, file, tf, hcode, hvs, hfile⟩ := G.at_
  obtain ⟨nm, qn, N, bs, bm, sn, sub, ab, col, dd, k0, k1, k2, k3, k5, hC, hbm⟩ := T.ox.cls
  have hcls : PySem.W.clsIn X.K C = some { name := nm, bases := bs, mro := .ref C :: bm, ns := N, qualname := qn, hasDict := true, slotNames := sn, subclasses := sub, abstract := ab, collection := col, hasDel := false } := by unfold PySem.W.clsIn; rw [hC] <;> rfl
  obtain ⟨t1, ho⟩ := exo_at I.hok ea
  obtain ⟨hh, g, d, t, os⟩ := s
  have XK := I.kIn
  obtain ⟨mb, hb1, hb2⟩ := I.mod.blt
  obtain ⟨m, hn, hl⟩ := id I.loc
  obtain ⟨u0, ru0, lk0⟩ := hl 0 ar.arg (.ref a) hN hσ (.inl hka)
  obtain rfl : u0 = Value.ref a := ru0
  have hv : m ar.arg = some (Value.ref a) := by
    rcases lk0 with ⟨_, e⟩ | ⟨z, _⟩
    · exact e
    · exfalso
      rcases z with z | z
      · have z' : X.env.scope.names.lookup ar.arg = some .cell := z
        rw [hka] at z'; cases z'
      · have z' : X.env.scope.names.lookup ar.arg = some .free := z
        rw [hka] at z'; cases z'
  refine PySem.ks_wpAt_Expr_any (PySem.ks_wpAt_MethodCall ?_ hev) hint hsw
  refine PySem.ks_wpAt_super_base (env := X.env) hks hkc (by decide) hfu (XK _ _ hf) rfl hp hco (XK _ _ hcode) rfl hvs hfile G.noTop ?_
  refine PySem.W.ks_loadName_global I.ok.kind hks (PySem.Calls.loadGlobal_builtin (by rw [I.ok.glob]; exact I.mod.glob.keeps I.bk) hsuper (by rw [I.ok.blt]; exact hb1.keeps I.bk) ((hb2 "super" (by decide)).trans (by decide +kernel)) ⟨rfl, ?_⟩)
  refine wpAny_loadName_free I.ok.kind hkc hcl ⟨_, XK _ _ hcell, rfl⟩ ?_
  refine wpAny_loadName_local I.ok.kind hka hn hv ?_
  refine ks_wpAny_isType_cls (XK _ _ hC) rfl ⟨rfl, ?_⟩
  refine ks_wpAny_call_super (XK _ _ hC) rfl ho rfl (fun c z => nomatch z) (PySem.W.looks_mroIn XK T.me) (fun h' e1 k1' => ?_)
  have I1 : Inv X pins σ H ⟨h', g, d, t, os⟩ := I.kept (t' := t) k1'
  have X1 := I1.kIn
  have ho1 := k1' _ _ ho
  have IA : PySem.W.InstAt h' a _ C none := ⟨ho1, rfl, rfl, trivial⟩
  refine PySem.W.kxs_getMethod PySem.W.kxs_ValueError e1 (PySem.W.looks_opaque X1 T.opq) (l₀ := .ref C :: bm) ?_ rfl X1 ?_ (IA.type.andThen (PySem.W.looks_subIn X1 T.isV)) (PySem.W.ks_ne X1 IA hcls) (by decide) ?_
  · exact fun A Q E s k q => wpAny_bind ((PySem.W.looks_clsIn X1 hcls) A _ E s k (wpAny_pure q))
  · have q1 := T.sup
    unfold PySem.W.ks_superIn at q1
    rw [hcls] at q1
    exact q1
  have I2 : Inv X pins σ H ⟨h'.push (PySem.W.kxs_mw "ValueError.__init__" a), g, d, t + 1, os⟩ := I1.kept (t' := t + 1) (fun b o z => Heap.get?_push_of_some _ z)
  have hu2 : (h'.push (PySem.W.kxs_mw "ValueError.__init__" a)).get? h'.objs.size = some (PySem.W.kxs_mw "ValueError.__init__" a) := Heap.get?_push_size _ rfl
  have hHu : H h'.objs.size = none := I1.hok.fresh (Nat.le_refl _)
  have J2 : Inv X ((h'.objs.size, PySem.W.kxs_mw "ValueError.__init__" a) :: pins) σ H ⟨h'.push (PySem.W.kxs_mw "ValueError.__init__" a), g, d, t + 1, os⟩ := by
    refine I2.pins_of fun p hp => ?_
    rcases List.mem_cons.mp hp with rfl | hp
    · exact ⟨hu2, hHu, Nat.ne_of_gt I1.lt, I1.nofs (Nat.le_refl _), fun v z => nomatch z⟩
    · exact I2.pin p (List.mem_append_right _ hp)
  have key : wpAny (model X.prog X.w) X.A (spliced (backTo cpos (starEach (e :: es) X.env))) (fun vs s₁ => PySem.W.KxsAt "ValueError.__init__" h'.objs.size a s₁.heap ∧ wpAny (model X.prog X.w) X.A (call (.ref h'.objs.size) vs) (fun _ => SP X pins D .next) X.xe s₁) X.xe ⟨h'.push (PySem.W.kxs_mw "ValueError.__init__" a), g, d, t + 1, os⟩ := by
    refine thn (ha.run cpos _ _ σ H _ J2 q) fun us s3 ⟨vs3, H1, I3, rv, hvl, ea1, qn⟩ => ?_
    have hu3 := (I3.pin (h'.objs.size, PySem.W.kxs_mw "ValueError.__init__" a) (List.mem_append_right _ List.mem_cons_self)).1
    refine ⟨hu3, ?_⟩
    have J3 : Inv X pins σ H1 s3 := I3.pins_of fun p hp => I3.pin p (List.mem_append_right _ (List.mem_cons_of_mem _ hp))
    obtain ⟨t2, ho3⟩ := exo_at J3.hok ea1
    have hus : us.length ≤ sizeLine := by
      rw [← Paired.length rv, sizeLine_eq]; omega
    have hC3 := J3.kIn _ _ hC
    obtain ⟨h3, g3, d3, tk3, os3⟩ := s3
    refine wpAny_call (codeAny_of_tree ?_)
    show wpAny _ X.A.in1 (callAny (.ref h'.objs.size) ⟨us, []⟩) _ _ _
    simp only [callAny]
    refine wpAny_bind (wpAny_load hu3 ?_)
    simp only [PySem.W.kxs_mw, show (Value.type "method-wrapper" == Value.type "method" || Value.type "method-wrapper" == Value.type "builtin_function_or_method" || Value.type "method-wrapper" == Value.type "method-wrapper") = true by decide, if_true]
    refine PySem.W.KFB.if_so (by decide) ?_
    refine wpAny_bind (PySem.W.check_bound_init F.excBase_ValueError.toExcCallFacts hC3 ho3 rfl ?_)
    refine wpAny_bind (wpAny_pure (wpAny_pure ?_))
    refine ⟨plainId_quiet F.excBase_ValueError.init.plain _, codeAny_builtin F.excBase_ValueError.initEntry ?_⟩
    refine PySem.W.exc_init_tree (cls := .ref C) (t0 := t2) (dv := none) (c2 := .none) (c3 := .none) (b4 := .bool false) ho3 hus fun h4 k4 hx4 ht4 => ?_
    have J := J3.write (t' := tk3) (x := a) (e := a) (o := exo a C none) (h' := h4) (by rw [ea1]; exact True.intro) (.inl rfl) k4 ⟨_, hx4⟩ (exo_ok hx4)
    have eu : upd H1 a (exo a C none) = H1 := by
      funext b
      by_cases hb : b = a
      · rw [hb, upd_same, ea1]
      · rw [upd_ne hb]
    rw [eu] at J
    exact ⟨σ, H1, J, qn⟩
  rw [hst] at key ⊢
  refine PySem.W.kxs_callWith (i := "ValueError.__init__") (x := a) (by show (false || (backTo cpos (starEach es X.env)).any (·.1)) = false; rw [hpl]; rfl) ?_
  exact PySem.Calls.evalArgs_plain key
end
end My

set_option Elab.async false
set_option linter.all false
set_option maxRecDepth 100000
set_option maxHeartbeats 4000000
/-! ### own errors: made, raised, caught, asked -/
namespace My
open PySem L2 NdefX
/-- __init__ of an error with one field: what it promises -/
def spErr1 (C : Addr) (f : Str) (P : V → Prop) : Sp := fun vs H Q _ => ∃ (a : Addr) (v : V), vs = [.ref a, v] ∧ P v ∧ H a = some (exo a C none) ∧ ∀ dx, H dx = none → dx ≠ a → Q .non (upd (upd H dx (exd dx [(f, v)])) a (exo a C (some dx)))
/-- .. with two fields -/
def spErr2 (C : Addr) (f g : Str) (P : V → V → Prop) : Sp := fun vs H Q _ => ∃ (a : Addr) (v u : V), vs = [.ref a, v, u] ∧ P v u ∧ H a = some (exo a C none) ∧ ∀ dx, H dx = none → dx ≠ a → Q .non (upd (upd (upd H dx (exd dx [(f, v)])) a (exo a C (some dx))) dx (exd dx [(g, u), (f, v)]))
theorem err_kp {H1 H2 : Hp} {a dx : Addr} {fs : List (Str × V)} (na : H1 a = none) (nd : H1 dx = none) (k : ∀ b, b ≠ a → b ≠ dx → H2 b = H1 b) : Kp [] H1 (upd (del H2 a) dx (.xd fs)) := fun b o _ e => by
  have h1 : b ≠ a := ne_of_none e na
  have h2 : b ≠ dx := ne_of_none e nd
  rw [upd_ne h2, del_ne h1, k b h1 h2]
  exact e
theorem err1_made {C : Addr} {f : Str} {P : V → Prop} {v : V} {H1 : Hp} {Q : XK} (hp : P v) (q : ∀ d H', H1 d = none → H' d = some (.xd [(f, v)]) → Kp [] H1 H' → Q (.ref C) (some d) H') :
    ([v] : List V).length ≤ 1000 ∧ ∀ a, H1 a = none → spErr1 C f P (.ref a :: ([v] ++ [])) (upd H1 a (exo a C none)) (fun v H2 => v = .non ∧ ∃ (d : Addr) (fs : List (Str × V)), H2 a = some (exo a C (some d)) ∧ H2 d = some (exd d fs) ∧ H1 d = none ∧ Q (.ref C) (some d) (upd (del H2 a) d (.xd fs))) (fun _ _ _ => False) := by
  refine ⟨by show 1 ≤ 1000; decide, fun a na => ⟨a, v, rfl, hp, upd_same, fun dx ndx hne => ?_⟩⟩
  rw [upd_ne hne] at ndx
  refine ⟨rfl, dx, _, upd_same, by rw [upd_ne hne]; exact upd_same, ndx, q dx _ ndx upd_same (err_kp na ndx fun b h1 h2 => ?_)⟩
  rw [upd_ne h1, upd_ne h2, upd_ne h1]
theorem err2_made {C : Addr} {f g : Str} {P : V → V → Prop} {v u : V} {H1 : Hp} {Q : XK} (hp : P v u) (q : ∀ d H', H1 d = none → H' d = some (.xd [(g, u), (f, v)]) → Kp [] H1 H' → Q (.ref C) (some d) H') :
    ([v, u] : List V).length ≤ 1000 ∧ ∀ a, H1 a = none → spErr2 C f g P (.ref a :: ([v, u] ++ [])) (upd H1 a (exo a C none)) (fun v H2 => v = .non ∧ ∃ (d : Addr) (fs : List (Str × V)), H2 a = some (exo a C (some d)) ∧ H2 d = some (exd d fs) ∧ H1 d = none ∧ Q (.ref C) (some d) (upd (del H2 a) d (.xd fs))) (fun _ _ _ => False) := by
  refine ⟨by show 2 ≤ 1000; decide, fun a na => ⟨a, v, u, rfl, hp, upd_same, fun dx ndx hne => ?_⟩⟩
  rw [upd_ne hne] at ndx
  refine ⟨rfl, dx, _, by rw [upd_ne hne.symm]; exact upd_same, upd_same, ndx, q dx _ ndx upd_same (err_kp na ndx fun b h1 h2 => ?_)⟩
  rw [upd_ne h2, upd_ne h1, upd_ne h2, upd_ne h1]
/-- what the written part says of an error class that is caught and asked -/
structure KitC (K : PySem.W.Frag) (C : Addr) : Prop where
  cl : (PySem.W.clsIn K C).isSome = true
  ga : PySem.W.findIn K (.ref C) "__getattribute__" = some (some (.builtin "BaseException.__getattribute__"))
  gg : PySem.W.findIn K (.ref C) "__getattr__" = some none
  bx : PySem.W.subIn K (.ref C) (.type "BaseException") = some true
  hc : PySem.W.findIn K (.ref C) "__class__" = some (some (.builtin "object.__class__"))
  hn : PySem.W.specialIn K (.builtin "object.__class__") "__get__" = some (some (.builtin "getset_descriptor.__get__"))
  ht : PySem.W.takesIn K (.builtin "object.__class__") = some true
  ob : PySem.W.mroIn K C (.type "object") = some true
/-- isinstance(e, c), e the error that the suite holds -/
def rIsX (K : PySem.W.Frag) (a : Addr) (cls : Value) (d : Option Addr) : List V → Hp → VK → Prop := fun xs H Q => ∃ (c : V) (cv : Value) (b : Bool) (D dd : Addr) (fs : List (Str × V)), xs = [.ref a, c] ∧ (∀ u, RelV c u → u = cv) ∧ cls = .ref D ∧ d = some dd ∧ H dd = some (.xd fs) ∧ KitC K D ∧ PySem.W.kitOne K (.ref D) cv = some b ∧ Q (.bl b) H
/-- .. a tuple of classes that was just laid -/
def rIsXT (K : PySem.W.Frag) (a : Addr) (cls : Value) (d : Option Addr) : List V → Hp → VK → Prop := fun xs H Q => ∃ (tp : Addr) (cs : List V) (us : List Value) (b : Bool) (D dd : Addr) (fs : List (Str × V)), xs = [.ref a, .ref tp] ∧ H tp = some (.tup cs) ∧ Paired ClsV cs us ∧ cls = .ref D ∧ d = some dd ∧ H dd = some (.xd fs) ∧ KitC K D ∧ PySem.W.kitAny K (.ref D) us = some b ∧ Q (.bl b) H
section
variable {X : Cx} {a : Addr} {oe : Obj} {cls : Value} {d : Option Addr} {pn : List (Addr × Obj)}
theorem inst_x {pins : List (Addr × Obj)} {s : Shared} {σ : L2.St} {H : Hp} {D dd : Addr} {fs : List (Str × V)} (I : Inv (X.suite a ((a, oe) :: pn)) pins σ H s) (hz : Zc (.ref D) (some dd) oe) (hf : ∃ vs, oe.data = .fields vs) (e : H dd = some (.xd fs)) : ∃ od, PySem.W.InstAt s.heap a oe D (some od) := by
  obtain ⟨ha, _⟩ := I.pin (a, oe) (List.mem_append_left _ List.mem_cons_self)
  obtain ⟨vs, hv⟩ := hf
  obtain ⟨mA, hns, _⟩ := (show ObjOk X.prog X.w H s.heap dd (.xd fs) from I.hok dd _ e)
  obtain ⟨od, ho, _⟩ := lookIn_ns hns
  exact ⟨od, ha, hz.1, by unfold PySem.W.notCls; rw [hv] <;> rfl, by rw [hz.2]; exact ho⟩
theorem call_isX (hz : Zc cls d oe) (hf : ∃ vs, oe.data = .fields vs) : CallR (X.suite a ((a, oe) :: pn)) (.builtin "isinstance") (rIsX X.K a cls d) := by
  intro pins s σ H xs us Q I r h
  obtain ⟨c, cv, b, D, dd, fs, rfl, hcv, rfl, rfl, ed, T, e, q⟩ := h
  obtain ⟨u1, u2, rfl, r1, r2⟩ := vals2 r
  cases (show u1 = Value.ref a from r1)
  cases hcv _ r2
  obtain ⟨od, J⟩ := inst_x I hz hf ed
  exact PySem.W.kia_one (PySem.W.kitx_exc T.cl T.ga T.gg T.bx T.hc T.hn T.ht T.ob) I.kIn J e (fun z => nomatch z) fun tk => ⟨.bl b, H, I.tok tk, rfl, q⟩
theorem call_isXT (hz : Zc cls d oe) (hf : ∃ vs, oe.data = .fields vs) : CallR (X.suite a ((a, oe) :: pn)) (.builtin "isinstance") (rIsXT X.K a cls d) := by
  intro pins s σ H xs us Q I r h
  obtain ⟨tp, cs, ws, b, D, dd, fs, rfl, hT, k, rfl, rfl, ed, T, e, q⟩ := h
  obtain ⟨u1, u2, rfl, r1, r2⟩ := vals2 r
  cases (show u1 = Value.ref a from r1)
  cases (show u2 = Value.ref tp from r2)
  obtain ⟨od, J⟩ := inst_x I hz hf ed
  obtain ⟨_, its, rv, o, h1, h2, n, h3⟩ := (show ObjOk X.prog X.w H s.heap tp (.tup cs) from I.hok tp _ hT)
  cases ClsV.all k rv
  obtain ⟨oc, od2, dt, sl⟩ := o
  simp only at h2 h3
  subst h2 h3
  exact PySem.W.kia_tup (PySem.W.kitx_exc T.cl T.ga T.gg T.bx T.hc T.hn T.ht T.ob) I.kIn J h1 e (fun z => nomatch z) fun tk => ⟨.bl b, H, I.tok tk, rfl, q⟩
end
end My

set_option Elab.async false
set_option linter.all false
set_option maxRecDepth 100000
set_option maxHeartbeats 4000000
/-! ### slices of mapped lists -/
namespace My
open PySem L2
theorem cut_ij {α : Type} {f : α → V} {ts : List α} {i j : Nat} (h : i ≤ j) : cutV (ts.map f) (some (i : Int)) (some (j : Int)) = ((ts.drop i).take (j - i)).map f := by
  unfold cutV
  rw [HT.sIx_nat, HT.sIx_nat, List.length_map, ← List.map_drop, ← List.map_take]
  congr 1
  rcases Nat.le_total i ts.length with z | z
  · rw [Nat.min_eq_left z]
    rcases Nat.le_total j ts.length with z2 | z2
    · rw [Nat.min_eq_left z2]
    · rw [Nat.min_eq_right z2, List.take_of_length_le (by rw [List.length_drop]; omega), List.take_of_length_le (by rw [List.length_drop]; omega)]
  · rw [Nat.min_eq_right z, List.drop_length, List.drop_of_length_le z]; simp
theorem cut_0j {α : Type} {f : α → V} {ts : List α} {j : Nat} : cutV (ts.map f) none (some (j : Int)) = (ts.take j).map f := by
  have := cut_ij (f := f) (ts := ts) (Nat.zero_le j)
  rw [List.drop_zero, Nat.sub_zero] at this
  exact this
theorem cut_i {α : Type} {f : α → V} {ts : List α} {i : Nat} : cutV (ts.map f) (some (i : Int)) none = (ts.drop i).map f := by
  unfold cutV
  rw [HT.sIx_nat, ← List.map_drop, ← List.map_take]
  congr 1
  show (ts.drop (min i (ts.map f).length)).take ((ts.map f).length - _) = _
  rw [List.length_map]
  rcases Nat.le_total i ts.length with z | z
  · rw [Nat.min_eq_left z, List.take_of_length_le (by rw [List.length_drop]; omega)]
  · rw [Nat.min_eq_right z, List.drop_length, List.drop_of_length_le z]; simp
end My

set_option Elab.async false
set_option linter.all false
set_option maxRecDepth 100000
set_option maxHeartbeats 4000000
/-! ### tuples that stand; rows of related things; small loops -/
namespace My
open PySem L2 NdefX
theorem len_app (x y : Str) : (x ++ y).length = x.length + y.length := Array.size_append
theorem take_snoc {α : Type} {l : List α} {i : Nat} {x : α} (h : l[i]? = some x) : l.take (i + 1) = l.take i ++ [x] := by
  rw [List.take_add_one, h]; rfl
/-- tuples stand as they did -/
def Tp (H H' : Hp) : Prop := ∀ a xs, H a = some (.tup xs) → H' a = some (.tup xs)
theorem Tp.refl (H : Hp) : Tp H H := fun _ _ h => h
theorem Tp.trans {H H1 H2 : Hp} (a : Tp H H1) (b : Tp H1 H2) : Tp H H2 := fun c xs h => b c xs (a c xs h)
theorem Kp.tps {H H' : Hp} (k : Kp [] H H') : Tp H H' := fun a xs h => k a _ not0 h
theorem Tp.putN {H H' : Hp} {l : Addr} {o : HO} (t : Tp H H') (h : ∀ xs, H' l ≠ some (.tup xs)) : Tp H (upd H' l o) := fun a xs e => by
  have z : a ≠ l := fun z => h xs (by rw [← z]; exact t a xs e)
  rw [upd_ne z]; exact t a xs e
theorem Tp.putL {H H' : Hp} {l : Addr} {o : HO} {ys : List V} (t : Tp H H') (h : H' l = some (.lst ys)) : Tp H (upd H' l o) := t.putN fun xs z => by rw [h] at z; cases z
theorem Tp.putI {H H' : Hp} {l C dx : Addr} {o : HO} {fs : List (Str × V)} (t : Tp H H') (h : H' l = some (.ins C dx fs)) : Tp H (upd H' l o) := t.putN fun xs z => by rw [h] at z; cases z
theorem Tp.new {H H' : Hp} {l : Addr} {o : HO} (t : Tp H H') (h : H' l = none) : Tp H (upd H' l o) := t.putN fun xs z => by rw [h] at z; cases z
theorem Kp.tpsI {H H' : Hp} {o C dx : Addr} {fs : List (Str × V)} (k : Kp [o] H H') (h : H o = some (.ins C dx fs)) : Tp H H' := fun a xs e => k a _ (not1 fun z => by rw [z, h] at e; cases e) e
theorem Kp.tpsL {H H' : Hp} {o : Addr} {ys : List V} (k : Kp [o] H H') (h : H o = some (.lst ys)) : Tp H H' := fun a xs e => k a _ (not1 fun z => by rw [z, h] at e; cases e) e
/-- one by one related -/
structure Rw {α : Type} (R : V → α → Prop) (us : List V) (gs : List α) : Prop where
  len : us.length = gs.length
  get : ∀ {i : Nat} {u : V}, us[i]? = some u → ∃ g, gs[i]? = some g ∧ R u g
theorem Rw.nil {α : Type} {R : V → α → Prop} : Rw R [] [] := ⟨rfl, fun e => nomatch e⟩
theorem Rw.mono {α : Type} {R R' : V → α → Prop} {us : List V} {gs : List α} (h : Rw R us gs) (f : ∀ u g, R u g → R' u g) : Rw R' us gs := ⟨h.len, fun e => by
  obtain ⟨g, a, b⟩ := h.get e
  exact ⟨g, a, f _ _ b⟩⟩
theorem Rw.at {α : Type} {R : V → α → Prop} {us : List V} {gs : List α} (h : Rw R us gs) {i : Nat} {g : α} (e : gs[i]? = some g) : ∃ u, us[i]? = some u ∧ R u g := by
  have il : i < us.length := by rw [h.len]; exact (List.getElem?_eq_some_iff.mp e).1
  obtain ⟨g', a, b⟩ := h.get (List.getElem?_eq_getElem il)
  rw [e] at a; cases a
  exact ⟨_, List.getElem?_eq_getElem il, b⟩
theorem Rw.cons {α : Type} {R : V → α → Prop} {us : List V} {gs : List α} {u : V} {g : α} (h : R u g) (t : Rw R us gs) : Rw R (u :: us) (g :: gs) := ⟨by simp [t.len], fun {i x} e => by
  cases i with
  | zero => cases e; exact ⟨g, rfl, h⟩
  | succ i => exact t.get (i := i) e⟩
theorem Rw.app {α : Type} {R : V → α → Prop} {us vs : List V} {gs hs : List α} (a : Rw R us gs) (b : Rw R vs hs) : Rw R (us ++ vs) (gs ++ hs) := ⟨by simp [a.len, b.len], fun {i x} e => by
  rcases Nat.lt_or_ge i us.length with z | z
  · rw [List.getElem?_append_left z] at e
    rw [List.getElem?_append_left (by rw [← a.len]; exact z)]
    exact a.get e
  · rw [List.getElem?_append_right z] at e
    rw [List.getElem?_append_right (by rw [← a.len]; exact z), ← a.len]
    exact b.get e⟩
theorem Rw.snoc {α : Type} {R : V → α → Prop} {us : List V} {gs : List α} {u : V} {g : α} (t : Rw R us gs) (h : R u g) : Rw R (us ++ [u]) (gs ++ [g]) := t.app (.cons h .nil)
theorem Rw.take {α : Type} {R : V → α → Prop} {us : List V} {gs : List α} (h : Rw R us gs) (n : Nat) : Rw R (us.take n) (gs.take n) := ⟨by simp [h.len], fun {i x} e => by
  rcases Nat.lt_or_ge i n with z | z
  · rw [List.getElem?_take_of_lt z] at e ⊢
    exact h.get e
  · rw [List.getElem?_take, if_neg (by omega)] at e; cases e⟩
theorem Rw.set {α : Type} {R : V → α → Prop} {us : List V} {gs : List α} {u : V} {g : α} (h : Rw R us gs) (n : Nat) (r : R u g) : Rw R (us.set n u) (gs.set n g) := ⟨by simp [h.len], fun {i x} e => by
  rcases Nat.decEq n i with z | z
  · rw [List.getElem?_set_ne z] at e ⊢
    exact h.get e
  · subst z
    have hl := (List.getElem?_eq_some_iff.mp e).1
    rw [List.length_set] at hl
    rw [List.getElem?_set_self hl] at e
    cases e
    exact ⟨g, by rw [List.getElem?_set_self (by rw [← h.len]; exact hl)], r⟩⟩
theorem Rw.tail {α : Type} {R : V → α → Prop} {u : V} {us : List V} {g : α} {gs : List α} (h : Rw R (u :: us) (g :: gs)) : R u g ∧ Rw R us gs := by
  obtain ⟨g', e, r⟩ := h.get (i := 0) rfl
  cases e
  exact ⟨r, by have := h.len; simpa using this, fun {i x} e => h.get (i := i + 1) e⟩
theorem Rw.isNil {α : Type} {R : V → α → Prop} {us : List V} (h : Rw R us ([] : List α)) : us = [] := List.eq_nil_of_length_eq_zero h.len
theorem Rw.ex {α : Type} {R : V → α → Prop} {us : List V} {g : α} {gs : List α} (h : Rw R us (g :: gs)) : ∃ u r, us = u :: r ∧ R u g ∧ Rw R r gs := by
  cases us with
  | nil => cases h.len
  | cons u r => exact ⟨u, r, rfl, h.tail⟩
theorem Rw.last {α : Type} {R : V → α → Prop} {us : List V} {gi : List α} {g : α} (h : Rw R us (gi ++ [g])) : ∃ ui u, us = ui ++ [u] ∧ Rw R ui gi ∧ R u g := by
  have e : (gi ++ [g])[gi.length]? = some g := by simp
  obtain ⟨u, eu, r⟩ := h.at e
  have hl : us.length = gi.length + 1 := by rw [h.len]; simp
  refine ⟨us.take gi.length, u, ?_, ?_, r⟩
  · rw [← take_snoc eu, List.take_of_length_le (by omega)]
  · have := h.take gi.length
    rw [List.take_left' rfl] at this
    exact this
theorem ixN_last {n : Nat} : ixN (n + 1) (-1) = some n := by
  unfold ixN
  rw [if_neg (by decide), if_pos (by omega)]
  congr 1
  omega
theorem seqIx {n : Nat} {i : Int} (h0 : 0 ≤ i) (h : i < n) : seqIndex? i n = some i.toNat := by
  have e : (if i < 0 then i + (n : Int) else i) = i := if_neg (by omega)
  unfold seqIndex?
  simp only [e, h0, h, decide_true, Bool.and_true, if_true]
theorem perm_erase : ∀ (l : List Int) (k : Nat) (h : k < l.length), (l[k] :: l.eraseIdx k).Perm l
  | [], k, h => absurd h (Nat.not_lt_zero k)
  | a :: r, 0, h => List.Perm.refl _
  | a :: r, k + 1, h => by
    have h' : k < r.length := by simpa using h
    show (r[k] :: a :: r.eraseIdx k).Perm (a :: r)
    exact (List.Perm.swap a r[k] _).trans ((perm_erase r k h').cons a)
/-- v is a tracked tuple of the ints xs -/
def TI (H : Hp) (v : V) (xs : List Int) : Prop := ∃ a, v = .ref a ∧ H a = some (.tup (xs.map V.int))
theorem TI.tp {H H' : Hp} {v : V} {xs : List Int} (h : TI H v xs) (t : Tp H H') : TI H' v xs := by
  obtain ⟨a, e, h⟩ := h
  exact ⟨a, e, t _ _ h⟩
theorem TI.kp {H H' : Hp} {v : V} {xs : List Int} (h : TI H v xs) (t : Kp [] H H') : TI H' v xs := h.tp t.tps
theorem TI.dp {K : PySem.W.Frag} {H : Hp} {v : V} {xs : List Int} (h : TI H v xs) : Dp K H v (.tuple (xs.map PyData.int)) := by
  obtain ⟨a, rfl, h⟩ := h
  refine .tup (sq_t h) ?_
  clear h
  induction xs with
  | nil => exact .nil
  | cons x r ih => exact .cons (.int x) ih
theorem map_get {α : Type} {f : Int → α} {xs : List Int} {i : Nat} {x : α} (h : (xs.map f)[i]? = some x) : ∃ k, xs[i]? = some k ∧ x = f k := by
  rw [List.getElem?_map] at h
  cases e : xs[i]? with
  | none => rw [e] at h; cases h
  | some k => rw [e] at h; cases h; exact ⟨k, rfl, rfl⟩
theorem rwInts (xs : List Int) : Rw (fun v x => v = V.int x) (xs.map V.int) xs := ⟨by simp, fun e => by
  obtain ⟨k, e, h⟩ := map_get e
  exact ⟨k, e, h⟩⟩
theorem rwInts_eq {us : List V} {xs : List Int} (h : Rw (fun v x => v = V.int x) us xs) : us = xs.map V.int := by
  apply List.ext_getElem?
  intro i
  cases e : us[i]? with
  | none =>
    rw [List.getElem?_eq_none_iff] at e
    rw [List.getElem?_eq_none (by rw [List.length_map, ← h.len]; exact e)]
  | some u =>
    obtain ⟨x, ex, rfl⟩ := h.get e
    rw [List.getElem?_map, ex]; rfl
theorem inV_int {z : Int} : ∀ {ks : List Int}, inV (.int z) (ks.map V.int) = decide (z ∈ ks)
  | [] => rfl
  | k :: ks => by
    have e : inV (.int z) ((k :: ks).map V.int) = ((k == z) || inV (.int z) (ks.map V.int)) := rfl
    rw [e, inV_int (ks := ks)]
    by_cases h : k = z
    · rw [h, beq_self_eq_true, Bool.true_or, decide_eq_true List.mem_cons_self]
    · rw [beq_eq_false_iff_ne.mpr h, Bool.false_or]
      refine decide_eq_decide.mpr ⟨fun q => List.mem_cons_of_mem _ q, fun q => ?_⟩
      rcases List.mem_cons.mp q with q | q
      · exact absurd q.symm h
      · exact q
theorem flat_ints (ys : List Int) : (ys.map V.int).all flatV = true := by
  rw [List.all_map]
  exact List.all_eq_true.mpr fun _ _ => rfl
/-- int(x) -/
def rInt1 : List V → Hp → VK → Prop := fun xs H Q => (∃ i, xs = [V.int i] ∧ Q (V.int i) H) ∨ ∃ k, xs = [V.bl k] ∧ Q (V.int (if k = true then 1 else 0)) H
theorem rInt1_int {i : Int} {H : Hp} {Q : VK} : rInt1 [V.int i] H Q = Q (V.int i) H := by
  unfold rInt1
  simp
theorem rInt1_bl {k : Bool} {H : Hp} {Q : VK} : rInt1 [V.bl k] H Q = Q (V.int (if k = true then 1 else 0)) H := by
  unfold rInt1
  simp
theorem forRg {ta : TA} {g : TG} {tb : TS} {D : Ends} {σ : L2.St} {H : Hp} (m : Int) (Pv : Nat → L2.St → Hp → Prop) (ht : ∀ R : List V → Hp → Prop, R [.int m] H → ta σ H R) (h1 : -(2 ^ 62) ≤ m) (h2 : m < 2 ^ 62) (h0 : Pv 0 σ H)
    (step : ∀ j σ H, j < m.toNat → Pv j σ H → g (.int (0 + j)) σ H fun σ2 H2 => tb { D with nx := Pv (j + 1), ct := Pv (j + 1), bk := D.nx } σ2 H2) (fin : ∀ σ H, Pv m.toNat σ H → D.nx σ H) : tFor (iRng1 ta) g tb D σ H :=
  ht _ ⟨m, rfl, h1, h2, for_range Pv h0 step fin⟩
/-- .. by a count -/
theorem forN {ta : TA} {g : TG} {tb : TS} {D : Ends} {σ : L2.St} {H : Hp} (m : Nat) (hm : m ≤ 100000) (Pv : Nat → L2.St → Hp → Prop) (ht : ∀ R : List V → Hp → Prop, R [.int (m : Nat)] H → ta σ H R) (h0 : Pv 0 σ H)
    (step : ∀ j σ H, j < m → Pv j σ H → g (.int (j : Nat)) σ H fun σ2 H2 => tb { D with nx := Pv (j + 1), ct := Pv (j + 1), bk := D.nx } σ2 H2) (fin : ∀ σ H, Pv m σ H → D.nx σ H) : tFor (iRng1 ta) g tb D σ H :=
  forRg (m : Nat) Pv ht (by omega) (by omega) h0 (fun j σ H hj p => by rw [Int.zero_add]; exact step j σ H (by omega) p) fun σ H p => fin σ H (by rw [Int.toNat_natCast] at p; exact p)
theorem lcRgN {ta : TA} {g : TG} {tt : TT} {te : TE} {vs : List Nat} {σ : L2.St} {H : Hp} {Q : VK} (m : Nat) (hm : m ≤ 100000) (Pv : Addr → Nat → Hp → Prop) (ht : ∀ R : List V → Hp → Prop, R [.int (m : Nat)] H → ta σ H R) (h0 : ∀ o, H o = none → Pv o 0 (upd H o (.lst [])))
    (step : ∀ o i H', H o = none → i < m → Pv o i H' → g (.int (i : Nat)) (wipe σ vs) H' fun σ2 H2 => wipe σ2 vs = wipe σ vs ∧ tt σ2 H2 fun b H3 => if b = true then te σ2 H3 fun y H4 => ∃ acc, H4 o = some (.lst acc) ∧ acc.length < sizeLine ∧ Pv o (i + 1) (upd H4 o (.lst (acc ++ [y]))) else Pv o (i + 1) H3)
    (fin : ∀ o H', H o = none → Pv o m H' → Q (.ref o) H') : tLc (iRng1 ta) g tt te vs σ H Q :=
  ht _ ⟨(m : Nat), rfl, by omega, by omega, fun o no => lc_range (Pv o) (h0 o no) (fun i H' hi p => by rw [Int.zero_add]; exact step o i H' no (by omega) p) fun H' p => fin o H' no (by rw [Int.toNat_natCast] at p; exact p)⟩
/-- [f(k) for k in range(m)], each item told by its number -/
theorem lcRgF {α : Type} {ta : TA} {j : Nat} {te : TE} {σ : L2.St} {H : Hp} {Q : VK} (m : Nat) (hm : m ≤ 100000) (R : Hp → V → α → Prop) (f : Nat → α) (mono : ∀ H H' v x, Tp H H' → R H v x → R H' v x) (hj : j < σ.length) (ht : ∀ R : List V → Hp → Prop, R [.int (m : Nat)] H → ta σ H R)
    (body : ∀ (i : Nat) H' (Q' : VK), i < m → Kp [] H H' → (∀ v H2, R H2 v (f i) → Kp [] H' H2 → Q' v H2) → te ((wipe σ [j]).set j (some (.int (i : Nat)))) H' Q')
    (fin : ∀ o us H', H o = none → H' o = some (.lst us) → Rw (R H') us ((List.range m).map f) → Kp [] H H' → Q (.ref o) H') : tLc (iRng1 ta) (gName j) tYes te [j] σ H Q :=
  lcRgN m hm (fun o i H' => ∃ us, H' o = some (.lst us) ∧ Rw (R H') us ((List.range i).map f) ∧ Kp [] H H') ht (fun o no => ⟨[], upd_same, .nil, Kp.new no⟩) (fun o i H' no hi ⟨us, ho, hr, k⟩ => by
    refine ⟨by simp [wipe], ?_⟩
    simp only [tYes, if_true]
    refine body i H' _ hi k fun v H2 hv k2 => ?_
    have ho2 := k2 _ _ not0 ho
    have tp2 : Tp H' (upd H2 o (.lst (us ++ [v]))) := k2.tps.putL ho2
    have tp3 : Tp H2 (upd H2 o (.lst (us ++ [v]))) := (Tp.refl H2).putL ho2
    refine ⟨us, ho2, smallL (by have := hr.len; rw [this, List.length_map, List.length_range]; omega), us ++ [v], upd_same, ?_, (k.trans k2).wr no⟩
    rw [List.range_succ, List.map_append]
    exact (hr.mono fun u g r => mono _ _ _ _ tp2 r).snoc (mono _ _ _ _ tp3 hv)) fun o H' no ⟨us, ho, hr, k⟩ => fin o us H' no ho hr k
/-- [x for x in t if b(x)], t a tuple of ints -/
theorem lcFilt {K : PySem.W.Frag} {tv : TE} {j : Nat} {tt : TT} {te : TE} {σ : L2.St} {H : Hp} {Q : VK} {a : Addr} {xs : List Int} (b : Int → Bool) (hv : ∀ R : VK, R (.ref a) H → tv σ H R) (ha : SqT K H a (xs.map V.int)) (hl : xs.length ≤ 1000) (hj : j < σ.length)
    (test : ∀ x H' (R : Bool → Hp → Prop), x ∈ xs → Kp [] H H' → R (b x) H' → tt ((wipe σ [j]).set j (some (.int x))) H' R)
    (elt : ∀ x H' (R : VK), R (.int x) H' → te ((wipe σ [j]).set j (some (.int x))) H' R)
    (fin : ∀ D H', H D = none → H' D = some (.lst ((xs.filter b).map V.int)) → Kp [] H H' → Q (.ref D) H') :
    tLc (iTup K tv) (gName j) tt te [j] σ H Q := by
  unfold tLc iTup
  refine hv _ ⟨a, rfl, ⟨_, ha⟩, fun D nD => ?_⟩
  refine lc_tup (xs := xs.map V.int) (fun i H' => H' D = some (.lst (((xs.take i).filter b).map V.int)) ∧ Kp [] H H') ⟨upd_same, Kp.new nD⟩ (fun i H' _ h => h.2.tp not0 ha) (fun i x H' hx h => ?_) fun H' h => ?_
  · obtain ⟨k, ek, rfl⟩ := map_get hx
    obtain ⟨hD, kp⟩ := h
    refine ⟨by simp [wipe], ?_⟩
    refine test k H' _ (List.mem_of_getElem? ek) kp ?_
    cases hb : b k with
    | true =>
      rw [if_pos rfl]
      refine elt k H' _ ⟨_, hD, ?_, ?_, kp.wr nD⟩
      · rw [List.length_map]
        have := List.length_filter_le b (xs.take i)
        rw [List.length_take] at this
        exact smallL (by omega)
      · rw [upd_same, take_snoc ek, List.filter_append]
        simp [hb]
    | false =>
      rw [if_neg (by simp)]
      refine ⟨?_, kp⟩
      rw [take_snoc ek, List.filter_append]
      simpa [hb] using hD
  · obtain ⟨hD, kp⟩ := h
    rw [List.length_map, List.take_length] at hD
    exact fin D H' nD hD kp
/-- [f(x) for x in t], t a tuple -/
theorem lcMapT {α β : Type} {K : PySem.W.Frag} {tv : TE} {j : Nat} {te : TE} {σ : L2.St} {H : Hp} {Q : VK} {a : Addr} {us : List V} {gs : List α} {R : Hp → V → α → Prop} (mono : ∀ H H' v x, Tp H H' → R H v x → R H' v x) (f : α → β) (put : β → V) (hv : ∀ R : VK, R (.ref a) H → tv σ H R) (ha : SqT K H a us) (hr : Rw (R H) us gs) (hl : gs.length ≤ 1000) (hj : j < σ.length)
    (elt : ∀ v x H' (Q' : VK), x ∈ gs → R H' v x → Kp [] H H' → (∀ H2, Kp [] H' H2 → Q' (put (f x)) H2) → te ((wipe σ [j]).set j (some v)) H' Q')
    (fin : ∀ D H', H D = none → H' D = some (.lst (gs.map fun x => put (f x))) → Kp [] H H' → Q (.ref D) H') :
    tLc (iTup K tv) (gName j) tYes te [j] σ H Q := by
  unfold tLc iTup
  refine hv _ ⟨a, rfl, ⟨_, ha⟩, fun D nD => ?_⟩
  refine lc_tup (xs := us) (fun i H' => H' D = some (.lst ((gs.take i).map fun x => put (f x))) ∧ Kp [] H H') ⟨upd_same, Kp.new nD⟩ (fun i H' _ h => h.2.tp not0 ha) (fun i x H' hx h => ?_) fun H' h => ?_
  · obtain ⟨g, eg, hg⟩ := hr.get hx
    obtain ⟨hD, kp⟩ := h
    refine ⟨by simp [wipe], ?_⟩
    simp only [tYes, if_true]
    refine elt x g H' _ (List.mem_of_getElem? eg) (mono _ _ _ _ kp.tps hg) kp fun H2 k2 => ?_
    refine ⟨_, k2 _ _ not0 hD, ?_, ?_, (kp.trans k2).wr nD⟩
    · rw [List.length_map, List.length_take]; exact smallL (by omega)
    · rw [upd_same, take_snoc eg, List.map_append]; rfl
  · obtain ⟨hD, kp⟩ := h
    rw [hr.len, List.take_length] at hD
    exact fin D H' nD hD kp
/-- [f(x) for x in l], l a list -/
theorem lcMapL {α β : Type} {K : PySem.W.Frag} {tv : TE} {j : Nat} {te : TE} {σ : L2.St} {H : Hp} {Q : VK} {a : Addr} {us : List V} {gs : List α} {R : Hp → V → α → Prop} (mono : ∀ H H' v x, Tp H H' → R H v x → R H' v x) (f : α → β) (put : β → V) (hv : ∀ R : VK, R (.ref a) H → tv σ H R) (ha : SqL K H a us) (hr : Rw (R H) us gs) (hl : gs.length ≤ 1000) (hj : j < σ.length)
    (elt : ∀ v x H' (Q' : VK), x ∈ gs → R H' v x → Kp [] H H' → (∀ H2, Kp [] H' H2 → Q' (put (f x)) H2) → te ((wipe σ [j]).set j (some v)) H' Q')
    (fin : ∀ D H', H D = none → H' D = some (.lst (gs.map fun x => put (f x))) → Kp [] H H' → Q (.ref D) H') :
    tLc (iList K tv) (gName j) tYes te [j] σ H Q := by
  unfold tLc iList
  refine hv _ ⟨a, rfl, ⟨_, ha⟩, fun D nD => ?_⟩
  refine lc_list (xs := us) (fun i H' => H' D = some (.lst ((gs.take i).map fun x => put (f x))) ∧ Kp [] H H') ⟨upd_same, Kp.new nD⟩ (fun i H' _ h => h.2.ls not0 ha) (fun i x H' hx h => ?_) fun H' h => ?_
  · obtain ⟨g, eg, hg⟩ := hr.get hx
    obtain ⟨hD, kp⟩ := h
    refine ⟨by simp [wipe], ?_⟩
    simp only [tYes, if_true]
    refine elt x g H' _ (List.mem_of_getElem? eg) (mono _ _ _ _ kp.tps hg) kp fun H2 k2 => ?_
    refine ⟨_, k2 _ _ not0 hD, ?_, ?_, (kp.trans k2).wr nD⟩
    · rw [List.length_map, List.length_take]; exact smallL (by omega)
    · rw [upd_same, take_snoc eg, List.map_append]; rfl
  · obtain ⟨hD, kp⟩ := h
    rw [hr.len, List.take_length] at hD
    exact fin D H' nD hD kp
/-- [f(x) for x in t], t a list; the results related -/
theorem lcRelL {α β : Type} {K : PySem.W.Frag} {tv : TE} {j : Nat} {te : TE} {σ : L2.St} {H : Hp} {Q : VK} {a : Addr} {us : List V} {gs : List α} {R : Hp → V → α → Prop} {R2 : Hp → V → β → Prop} (mono : ∀ H H' v x, Tp H H' → R H v x → R H' v x) (mono2 : ∀ H H' v x, Tp H H' → R2 H v x → R2 H' v x) (f : α → β) (hv : ∀ R : VK, R (.ref a) H → tv σ H R) (ha : SqL K H a us) (hr : Rw (R H) us gs) (hl : gs.length ≤ 1000) (hj : j < σ.length)
    (elt : ∀ v x H' (Q' : VK), x ∈ gs → R H' v x → Kp [] H H' → (∀ v' H2, R2 H2 v' (f x) → Kp [] H' H2 → Q' v' H2) → te ((wipe σ [j]).set j (some v)) H' Q')
    (fin : ∀ D ws H', H D = none → H' D = some (.lst ws) → Rw (R2 H') ws (gs.map f) → Kp [] H H' → Q (.ref D) H') :
    tLc (iList K tv) (gName j) tYes te [j] σ H Q := by
  unfold tLc iList
  refine hv _ ⟨a, rfl, ⟨_, ha⟩, fun D nD => ?_⟩
  refine lc_list (xs := us) (fun i H' => ∃ ws, H' D = some (.lst ws) ∧ Rw (R2 H') ws ((gs.take i).map f) ∧ Kp [] H H') ⟨[], upd_same, .nil, Kp.new nD⟩ (fun i H' _ h => by obtain ⟨_, _, _, k⟩ := h; exact k.ls not0 ha) (fun i x H' hx h => ?_) fun H' h => ?_
  · obtain ⟨g, eg, hg⟩ := hr.get hx
    obtain ⟨ws, hD, hw, kp⟩ := h
    refine ⟨by simp [wipe], ?_⟩
    simp only [tYes, if_true]
    refine elt x g H' _ (List.mem_of_getElem? eg) (mono _ _ _ _ kp.tps hg) kp fun v' H2 h2 k2 => ?_
    have hD2 := k2 _ _ not0 hD
    refine ⟨_, hD2, ?_, ws ++ [v'], upd_same, ?_, (kp.trans k2).wr nD⟩
    · rw [hw.len, List.length_map, List.length_take]; exact smallL (by omega)
    · rw [take_snoc eg, List.map_append]
      exact (hw.mono fun u g r => mono2 _ _ _ _ (k2.tps.putL hD2) r).snoc (mono2 _ _ _ _ ((Tp.refl H2).putL hD2) h2)
  · obtain ⟨ws, hD, hw, kp⟩ := h
    rw [hr.len, List.take_length] at hw
    exact fin D ws H' nD hD hw kp
theorem lc_src {K : PySem.W.Frag} {tv : TE} {g : TG} {tt : TT} {te : TE} {vs : List Nat} {σ : L2.St} {H : Hp} {Q : VK} (h : tv σ H fun v H1 => tLc (iList K (tC v)) g tt te vs σ H1 Q) : tLc (iList K tv) g tt te vs σ H Q := h
theorem lc_srcT {K : PySem.W.Frag} {tv : TE} {g : TG} {tt : TT} {te : TE} {vs : List Nat} {σ : L2.St} {H : Hp} {Q : VK} (h : tv σ H fun v H1 => tLc (iTup K (tC v)) g tt te vs σ H1 Q) : tLc (iTup K tv) g tt te vs σ H Q := h
def rTupOf (K : PySem.W.Frag) : List V → Hp → VK → Prop := fun xs H Q => ∃ p ys, xs = [V.ref p] ∧ ((SqL K H p ys ∧ ∀ l, H l = none → Q (.ref l) (upd H l (.tup ys))) ∨ (SqT K H p ys ∧ Q (.ref p) H))
theorem TI.make {H : Hp} {s : Addr} {xs : List Int} : TI (upd H s (.tup (xs.map V.int))) (.ref s) xs := ⟨s, rfl, upd_same⟩
/-- [k for k in range(m) if b(k)] -/
theorem lcRgFilt {ta : TA} {j : Nat} {tt : TT} {te : TE} {σ : L2.St} {H : Hp} {Q : VK} (m : Nat) (hm : m ≤ 1000) (b : Int → Bool) (hj : j < σ.length) (ht : ∀ R : List V → Hp → Prop, R [.int (m : Nat)] H → ta σ H R)
    (test : ∀ (i : Nat) H' (R : Bool → Hp → Prop), i < m → Kp [] H H' → (∀ H2, Kp [] H' H2 → R (b i) H2) → tt ((wipe σ [j]).set j (some (.int (i : Nat)))) H' R)
    (elt : ∀ (i : Nat) H' (R : VK), R (.int (i : Nat)) H' → te ((wipe σ [j]).set j (some (.int (i : Nat)))) H' R)
    (fin : ∀ D H', H D = none → H' D = some (.lst ((((List.range m).map fun i => ((i : Nat) : Int)).filter b).map V.int)) → Kp [] H H' → Q (.ref D) H') :
    tLc (iRng1 ta) (gName j) tt te [j] σ H Q :=
  lcRgN m (by omega) (fun o i H' => H' o = some (.lst ((((List.range i).map fun i => ((i : Nat) : Int)).filter b).map V.int)) ∧ Kp [] H H') ht (fun o no => ⟨upd_same, Kp.new no⟩) (fun o i H' no hi ⟨hD, kp⟩ => by
    refine ⟨by simp [wipe], ?_⟩
    refine test i H' _ hi kp fun H2 k2 => ?_
    have hD2 := k2 _ _ not0 hD
    cases hb : b i with
    | true =>
      rw [if_pos rfl]
      refine elt i H2 _ ⟨_, hD2, ?_, ?_, (kp.trans k2).wr no⟩
      · rw [List.length_map]
        have := List.length_filter_le b ((List.range i).map fun i => ((i : Nat) : Int))
        rw [List.length_map, List.length_range] at this
        exact smallL (by omega)
      · rw [upd_same, List.range_succ, List.map_append, List.filter_append]
        simp [hb]
    | false =>
      rw [if_neg (by simp)]
      refine ⟨?_, kp.trans k2⟩
      rw [List.range_succ, List.map_append, List.filter_append]
      simpa [hb] using hD2) fun o H' no ⟨hD, kp⟩ => fin o H' no hD kp
theorem forT_src {K : PySem.W.Frag} {te : TE} {g : TG} {tb : TS} {D : Ends} {σ : L2.St} {H : Hp} (h : te σ H fun v H1 => tFor (iTup K (tC v)) g tb D σ H1) : tFor (iTup K te) g tb D σ H := h
theorem forTC {K : PySem.W.Frag} {g : TG} {tb : TS} {D : Ends} {σ : L2.St} {H : Hp} {a : Addr} {xs : List V} (Pv : Nat → L2.St → Hp → Prop) (hS : SqT K H a xs) (h0 : Pv 0 σ H) (hl : ∀ j σ H, j ≤ xs.length → Pv j σ H → SqT K H a xs)
    (hs : ∀ j x σ H, xs[j]? = some x → Pv j σ H → g x σ H fun σ2 H2 => tb { D with nx := Pv (j + 1), ct := Pv (j + 1), bk := D.nx } σ2 H2) (hd : ∀ σ H, Pv xs.length σ H → D.nx σ H) : tFor (iTup K (tC (.ref a))) g tb D σ H :=
  ⟨a, rfl, ⟨xs, hS⟩, for_tup Pv h0 hl hs hd⟩
theorem forN2 {ta : TA} {g : TG} {tb : TS} {D : Ends} {σ : L2.St} {H : Hp} (lo m : Nat) (hlo : lo ≤ 1000) (hm : m ≤ 100000) (Pv : Nat → L2.St → Hp → Prop) (ht : ∀ R : List V → Hp → Prop, (∀ H1, Kp [] H H1 → R [.int (lo : Nat), .int (m : Nat)] H1) → ta σ H R) (h0 : ∀ H1, Kp [] H H1 → Pv 0 σ H1)
    (step : ∀ j σ H, lo + j < m → Pv j σ H → g (.int ((lo + j : Nat) : Int)) σ H fun σ2 H2 => tb { D with nx := Pv (j + 1), ct := Pv (j + 1), bk := D.nx } σ2 H2) (fin : ∀ σ H, Pv (m - lo) σ H → D.nx σ H) : tFor (iRng2 ta) g tb D σ H :=
  ht _ fun H1 k1 => ⟨(lo : Nat), (m : Nat), rfl, ⟨by omega, by omega, by omega, by omega⟩, for_range (lo := (lo : Nat)) (n := ((m : Int) - (lo : Nat)).toNat) Pv (h0 H1 k1) (fun j σ H hj p => by
    have e : ((lo : Nat) : Int) + (j : Nat) = ((lo + j : Nat) : Int) := by omega
    rw [e]
    exact step j σ H (by omega) p) fun σ H p => fin σ H (by
      have e : ((m : Int) - (lo : Nat)).toNat = m - lo := by omega
      rw [e] at p; exact p)⟩
/-- [e for k in range(m)], of each item a fact -/
theorem lcRgE {α : Type} {ta : TA} {j : Nat} {te : TE} {σ : L2.St} {H : Hp} {Q : VK} (m : Nat) (hm : m ≤ 100000) (R : Hp → V → α → Prop) (G : α → Prop) (mono : ∀ H H' v x, Tp H H' → R H v x → R H' v x) (hj : j < σ.length) (ht : ∀ R : List V → Hp → Prop, R [.int (m : Nat)] H → ta σ H R)
    (body : ∀ (i : Nat) H' (Q' : VK), i < m → Kp [] H H' → (∀ v g H2, R H2 v g → G g → Kp [] H' H2 → Q' v H2) → te ((wipe σ [j]).set j (some (.int (i : Nat)))) H' Q')
    (fin : ∀ o us gs H', H o = none → H' o = some (.lst us) → Rw (R H') us gs → gs.length = m → (∀ g ∈ gs, G g) → Kp [] H H' → Q (.ref o) H') : tLc (iRng1 ta) (gName j) tYes te [j] σ H Q :=
  lcRgN m hm (fun o i H' => ∃ us gs, H' o = some (.lst us) ∧ Rw (R H') us gs ∧ gs.length = i ∧ (∀ g ∈ gs, G g) ∧ Kp [] H H') ht (fun o no => ⟨[], [], upd_same, .nil, rfl, (fun g h => nomatch h), Kp.new no⟩) (fun o i H' no hi ⟨us, gs, ho, hr, gl, hg, k⟩ => by
    refine ⟨by simp [wipe], ?_⟩
    simp only [tYes, if_true]
    refine body i H' _ hi k fun v g H2 hv gg k2 => ?_
    have ho2 := k2 _ _ not0 ho
    refine ⟨us, ho2, smallL (by have := hr.len; omega), us ++ [v], gs ++ [g], upd_same, (hr.mono fun u g r => mono _ _ _ _ (k2.tps.putL ho2) r).snoc (mono _ _ _ _ ((Tp.refl H2).putL ho2) hv), by simp [gl], fun x hx => ?_, (k.trans k2).wr no⟩
    rcases List.mem_append.mp hx with hx | hx
    · exact hg x hx
    · rw [List.mem_singleton.mp hx]; exact gg) fun o H' no ⟨us, gs, ho, hr, gl, hg, k⟩ => fin o us gs H' no ho hr gl hg k
/-- a walk of a tuple that stands -/
theorem it_tup {K : PySem.W.Frag} {a : Addr} {xs : List V} {W0 : Hp → Prop} (Pv : Nat → Hp → Prop) {H : Hp} (h0 : Pv 0 H) {Nx : Hp → Prop} {Body : V → Hp → (Hp → Prop) → Prop} (hl : ∀ i H', Pv i H' → SqT K H' a xs)
    (step : ∀ i x H', xs[i]? = some x → Pv i H' → Body x H' (Pv (i + 1))) (fin : ∀ H', Pv xs.length H' → Nx H') : ∃ W : Nat → Nat → Hp → Prop, (∃ k, W 0 k H) ∧ ∀ i k H, W i k H →
  ((Itt K a).stop i H ∧ Nx H) ∨ ((Itt K a).go i H ∧ ∃ N2 : Hp → Prop, (∀ H', N2 H' → ∃ m', m' < k ∧ W (i + 1) m' H') ∧ ∀ x H', (Itt K a).yld i H x H' → Body x H' N2) := by
  refine ⟨fun i k H => k = xs.length - i ∧ i ≤ xs.length ∧ Pv i H, ⟨xs.length, rfl, Nat.zero_le _, h0⟩, ?_⟩
  rintro i k H ⟨rfl, hi, p⟩
  have q := hl i H p
  by_cases lt : i < xs.length
  · refine .inr ⟨⟨xs, xs[i], q, by simp [lt]⟩, Pv (i + 1), fun H' p' => ⟨xs.length - (i + 1), by omega, rfl, lt, p'⟩, fun x H' y => ?_⟩
    obtain ⟨e, y⟩ := y
    subst e
    exact step i x _ (y xs q) p
  · have e : i = xs.length := by omega
    subst e
    exact .inl ⟨⟨xs, q, Nat.le_refl _⟩, fin H p⟩
theorem flat_take {gs : List (List Int)} {i : Nat} {g : List Int} (e : gs[i]? = some g) : (gs.take (i + 1)).flatten = (gs.take i).flatten ++ g := by
  rw [take_snoc e, List.flatten_append, List.flatten_singleton]
theorem flat_le (gs : List (List Int)) (i : Nat) : (gs.take i).flatten.length ≤ gs.flatten.length := by
  have e : (gs.take i ++ gs.drop i).flatten.length = gs.flatten.length := by rw [List.take_append_drop]
  rw [List.flatten_append, List.length_append] at e
  omega
/-- [x for g in t for x in g], t a tuple of tuples of ints -/
theorem lcFlat {K : PySem.W.Frag} {tv : TE} {p q : Nat} {σ : L2.St} {H : Hp} {Q : VK} {a : Addr} {us : List V} {gs : List (List Int)} (hv : ∀ R : VK, R (.ref a) H → tv σ H R) (ha : SqT K H a us) (hr : Rw (TI H) us gs) (hl : gs.flatten.length ≤ 1000) (hp : p < σ.length) (hq : q < σ.length) (pq : p ≠ q)
    (fin : ∀ D H', H D = none → H' D = some (.lst (gs.flatten.map V.int)) → Kp [] H H' → Q (.ref D) H') :
    tLc2 (iTup K tv) (gName p) tYes (iTup K (tVar p)) (gName q) tYes (tVar q) [p, q] [q] σ H Q := by
  unfold tLc2 iTup
  refine hv _ ⟨a, rfl, ⟨_, ha⟩, fun D nD => ?_⟩
  have w1 : ∀ x, wipe ((wipe σ [p, q]).set p (some x)) [p, q] = wipe σ [p, q] := fun x => by
    apply List.ext_getElem?
    intro n
    simp only [wipe, List.getElem?_set, List.length_set]
    by_cases h1 : p = n <;> by_cases h2 : q = n <;> simp [h1, h2]
  refine it_tup (K := K) (a := a) (xs := us) (W0 := fun _ => True) (Body := fun x H' N => gName p x (wipe σ [p, q]) H' fun σ2 H2 => wipe σ2 [p, q] = wipe σ [p, q] ∧ tYes σ2 H2 fun b H3 => if b = true then tLcIn (iTup K (tVar p)) (gName q) tYes (tVar q) [q] D σ2 H3 N else N H3)
    (fun i H' => H' D = some (.lst ((gs.take i).flatten.map V.int)) ∧ Kp [] H H') ⟨upd_same, Kp.new nD⟩ (fun i H' h => h.2.tp not0 ha) (fun i x H' hx h => ?_) fun H' h => ?_
  · obtain ⟨g, eg, b, rfl, hb⟩ := hr.get hx
    obtain ⟨hD, kp⟩ := h
    refine ⟨w1 _, ?_⟩
    simp only [tYes, if_true]
    have hb' := kp _ _ not0 hb
    refine ⟨.ref b, ?_, b, rfl, ⟨_, sq_t hb'⟩, ?_⟩
    · show ((wipe σ [p, q]).set p (some (.ref b)))[p]? = _
      rw [List.getElem?_set_self (by rw [wipe_length]; exact hp)]
    have fl := flat_le gs (i + 1)
    rw [flat_take eg, List.length_append] at fl
    refine it_tup (K := K) (a := b) (xs := g.map V.int) (W0 := fun _ => True) (Body := fun x H' N => gName q x (wipe ((wipe σ [p, q]).set p (some (.ref b))) [q]) H' fun σ2 H2 => wipe σ2 [q] = wipe ((wipe σ [p, q]).set p (some (.ref b))) [q] ∧ tYes σ2 H2 fun b H3 => if b = true then tVar q σ2 H3 fun y H4 => ∃ acc, H4 D = some (.lst acc) ∧ acc.length < sizeLine ∧ N (upd H4 D (.lst (acc ++ [y]))) else N H3)
      (fun j H2 => H2 D = some (.lst (((gs.take i).flatten ++ g.take j).map V.int)) ∧ Kp [] H H2) ⟨by rw [List.take_zero, List.append_nil]; exact hD, kp⟩ (fun j H2 h => sq_t (h.2 _ _ not0 (by exact hb))) (fun j x H2 hx2 h => ?_) fun H2 h => ?_
    · obtain ⟨k, ek, rfl⟩ := map_get hx2
      obtain ⟨hD2, kp2⟩ := h
      refine ⟨by simp [wipe], ?_⟩
      simp only [if_true]
      refine ⟨.int k, ?_, _, hD2, ?_, ?_, kp2.wr nD⟩
      · rw [List.getElem?_set_self (by rw [wipe_length, List.length_set, wipe_length]; exact hq)]
      · rw [List.length_map, List.length_append, List.length_take]; exact smallL (by omega)
      · rw [upd_same, take_snoc ek]; simp
    · obtain ⟨hD2, kp2⟩ := h
      rw [List.length_map, List.take_length] at hD2
      exact ⟨by rw [flat_take eg]; exact hD2, kp2⟩
  · obtain ⟨hD, kp⟩ := h
    rw [hr.len, List.take_length] at hD
    exact fin D H' nD hD kp
/-- what stands of an own error with one field, and its __init__ -/
structure Er1 (P : Program) (w : World) (K : PySem.W.Frag) (mg : Str → Option Value) (base : Heap) (nm fld : Str) (C f : Addr) (fd : FuncData) (ps : List Str) (Pf : V → Prop) : Prop where
  k : mg nm = some (.ref C)
  ox : OexC K C
  ic : PySem.W.findIn K (.ref C) "__init__" = some (some (.ref f))
  ti : PySem.W.typeIn K (.ref f) = some (.type "function")
  b : Binds K fd ps []
  G : FnOk P w K mg base (L2.CX P w) 1 f fd ps (spErr1 C fld Pf)
theorem find_first {α : Type} {f : α → Bool} {l : List α} {i : Nat} {x : α} (e : l[i]? = some x) (hx : f x = true) (h : ∀ j y, j < i → l[j]? = some y → f y = false) : l.find? f = some x := by
  induction l generalizing i with
  | nil => cases e
  | cons a r ih =>
    cases i with
    | zero => cases e; rw [List.find?_cons, hx]
    | succ i =>
      rw [List.find?_cons, h 0 a (by omega) rfl]
      exact ih e fun j y hj ey => h (j + 1) y (by omega) ey
end My

set_option Elab.async false
set_option linter.all false
set_option maxRecDepth 100000
set_option maxHeartbeats 4000000
/-! ### methods and called objects within a try -/
namespace My
open PySem L2 StX PySem.Spec PyProof.Rows
def tMethT (C : Addr) (m : Str) (sp : Sp) (E : L2.St → XK) (ta : TE) (t : TA) : TE := fun σ H Q => ta σ H fun x H1 => ∃ a dx fs, x = .ref a ∧ H1 a = some (.ins C dx fs) ∧ fs.lookup m = none ∧ t σ H1 fun vs H2 => sp (.ref a :: vs) H2 Q (E σ)
section
variable {X : Cx} {CX : CXT} {C g : Addr} {fd : FuncData} {ps : List Str} {sp : Sp} {E : L2.St → XK} {k : Nat} {o e : Expr} {es : List Expr} {ta : TE} {t : TA} {pos apos : Pos} {m : Str} {f : Addr}
theorem pe_methT {pl : Sem Bool} (c : Cls X.K C) (hm : Meth X.K C m f) (F : FnOk X.prog X.w X.K X.mg X.base CX k f fd ps sp) (hr : Room k X.A) (hb : Binds X.K fd ps []) (hx : ∀ σ, PassesAt CX X σ (E σ)) (he : PE X o ta) (ha : PA X (e :: es) t)
    (hst : starEach (e :: es) X.env = (false, eval e X.env) :: starEach es X.env := by rfl) (hpl : (backTo pos (starEach es X.env)).any (·.1) = false := by rfl)
    (ht : eval (.Call (.Attribute o m apos) (e :: es) [] pos) X.env = (do
      let ov ← eval o X.env
      standAt apos.atName
      let (f, first) ← holding [ov] (getMethod ov m pl)
      callWith pos f first (backTo pos (starEach (e :: es) X.env)) (backToKw pos (keywordEach [] X.env))) := by rfl) :
    PE X (.Call (.Attribute o m apos) (e :: es) [] pos) (tMethT C m sp E ta t) := by
  refine ⟨fun pins s σ H Q I h => ?_⟩
  refine PySem.W.methodCall_KW (pl := pl) (thn (he.run pins s σ H _ I h) fun u s1 ⟨x, H1, I1, rx, a, dx, fs, ex, ea, l, q⟩ => ?_) ht
  subst ex
  obtain rfl : u = Value.ref a := rx
  refine getmeth_ok I1 ea c hm l ?_
  refine PySem.W.callWith_K (first := [.ref a]) (h₀ := X.base) I.ok.mod.kin hm.kp (thn (ha.run pos pins s1 σ H1 _ I1 q) fun us s2 ⟨vs, H2, I2, r, q2⟩ => ⟨I2.kIn, ?_⟩) hst hpl
  exact run_fnS (us := .ref a :: us) (vs := .ref a :: vs) F hr hb (hx σ) I2 (.cons rfl r) q2
def tCallOT (C : Addr) (sp : Sp) (E : L2.St → XK) (tf : TE) (t : TA) : TE := fun σ H Q => tf σ H fun y H1 => ∃ a, y = V.ref a ∧ t σ H1 fun vs H2 => (∃ dx fs, H2 a = some (.ins C dx fs)) ∧ sp (V.ref a :: vs) H2 Q (E σ)
theorem run_fnRS {pins : List (Addr × Obj)} {σ : L2.St} {H : Hp} {s : Shared} {f : Addr} {Q : VK} {E : L2.St → XK} {us : List Value} {vs : List V} (F : FnR X.prog X.w X.K X.mg X.base CX k f sp) (hr : Room k X.A) (hx : PassesAt CX X σ (E σ)) (I : Inv X pins σ H s) (r : Vals vs us) (h : sp vs H Q (E σ)) :
    codeAny (model X.prog X.w) X.A (.call (.ref f) ⟨us, []⟩) (fun r s' => match r with | .ok (.ret v) => EP X pins σ Q v s' | .ok _ => False | .error e => X.xe e s') s := by
  refine codeAny_mono (F X.A X.stack s H us vs Q (E σ) hr I.env0 r h) fun r s' hq => ?_
  cases r with
  | error e => exact hx pins H s e s' I hq
  | ok fl =>
    cases fl with
    | ret u => exact I.after hq
    | next => exact False.elim hq
    | brk => exact False.elim hq
    | cont => exact False.elim hq
theorem pe_callOT {fe : Expr} {tf : TE} (c : CallO X.K C g) (F : FnR X.prog X.w X.K X.mg X.base CX k g sp) (hr : Room k X.A) (hx : ∀ σ, PassesAt CX X σ (E σ)) (hf : PE X fe tf) (ha : PA X (e :: es) t)
    (ht : eval (.Call fe (e :: es) [] pos) X.env = (do callWith pos (← eval fe X.env) [] (backTo pos (starEach (e :: es) X.env)) (backToKw pos (keywordEach [] X.env))) := by rfl)
    (he : starEach (e :: es) X.env = (false, eval e X.env) :: starEach es X.env := by rfl) (hpl : (backTo pos (starEach es X.env)).any (·.1) = false := by rfl) : PE X (.Call fe (e :: es) [] pos) (tCallOT C sp E tf t) := by
  refine ⟨fun pins s σ H Q I h => ?_⟩
  refine Call_ (thn (hf.run pins s σ H _ I h) fun u s1 ⟨y, H1, I1, ry, a, ey, q⟩ => ?_) ht
  subst ey
  obtain rfl : u = Value.ref a := ry
  refine callO_with (thn (ha.run pos pins s1 σ H1 _ I1 q) fun us s2 ⟨vs, H2, I2, r, hi, q2⟩ => ?_) he hpl
  obtain ⟨ox, od, J, hd⟩ := insC_at I2 (.inr hi)
  exact ⟨⟨C, ox, od, J, hd⟩, wpAny_call (PySem.W.kco_code I2.kIn J hd c.at_ c.fn c.fi (run_fnRS (us := .ref a :: us) (vs := .ref a :: vs) F hr (hx σ) I2 (.cons rfl r) q2))⟩
end
end My

set_option Elab.async false
set_option linter.all false
set_option maxRecDepth 100000
set_option maxHeartbeats 4000000
namespace My
open PySem L2
def top (i : Nat) : Stmt := PySem.Challenge.pw_coretower_k01_web_keeps_its_moves.main.body.getD i (.Pass ⟨0, 0, 0, 0⟩)
def mtop (i j : Nat) : Stmt := match top i with
  | .ClassDef _ _ _ b _ _ _ _ _ _ _ => b.getD j (.Pass ⟨0, 0, 0, 0⟩)
  | _ => .Pass ⟨0, 0, 0, 0⟩
abbrev s_is_name : Stmt := top 8
theorem sc_is_name : FnScope ["value", "letter"] ["value"] (defScope s_is_name) := ⟨rfl, rfl, rfl, by decide +kernel, rfl, by decide +kernel, by decide +kernel⟩
abbrev s_is_below : Stmt := top 9
theorem sc_is_below : FnScope ["value", "bound"] ["value", "bound"] (defScope s_is_below) := ⟨rfl, rfl, rfl, by decide +kernel, rfl, by decide +kernel, by decide +kernel⟩
abbrev s_is_number : Stmt := top 10
theorem sc_is_number : FnScope ["value"] ["value"] (defScope s_is_number) := ⟨rfl, rfl, rfl, by decide +kernel, rfl, by decide +kernel, by decide +kernel⟩
abbrev s_is_deed : Stmt := top 11
theorem sc_is_deed : FnScope ["value", "caller", "word", "what"] ["value"] (defScope s_is_deed) := ⟨rfl, rfl, rfl, by decide +kernel, rfl, by decide +kernel, by decide +kernel⟩
abbrev s_is_visible : Stmt := top 12
theorem sc_is_visible : FnScope ["deed"] ["deed"] (defScope s_is_visible) := ⟨rfl, rfl, rfl, by decide +kernel, rfl, by decide +kernel, by decide +kernel⟩
def lets : Str := "abcdefghijklmnopqrstuvwxyz"
def lowC (c : Nat) : Bool := decide (97 ≤ c) && decide (c ≤ 122)
def nameS (z : Str) : Bool := decide (1 ≤ z.length) && (decide (z.length ≤ 8) && z.cps.toList.all lowC)
def nameD : PyData → Bool
  | .str z => nameS z
  | _ => false
def belowD (m : Int) : PyData → Bool
  | .int i => decide (0 ≤ i) && decide (i < m)
  | _ => false
mutual
def szD : PyData → Bool
  | .str z => decide (z.length ≤ 1000)
  | .tuple ds => szAll ds
  | .list ds => szAll ds
  | _ => true
def szAll : List PyData → Bool
  | [] => true
  | d :: ds => szD d && szAll ds
end
theorem szAll_mem : ∀ {ds : List PyData}, szAll ds = true → ∀ d ∈ ds, szD d = true
  | d :: ds, h, e, he => by
    have h' : (szD d && szAll ds) = true := h
    rw [Bool.and_eq_true] at h'
    rcases List.mem_cons.mp he with rfl | he
    · exact h'.1
    · exact szAll_mem h'.2 e he
structure Bt (mg : Str → Option Value) (tL t1 t2 : Tok) : Prop where
  b_isinstance : mg "isinstance" = none
  b_str : mg "str" = none
  b_int : mg "int" = none
  b_bool : mg "bool" = none
  b_tuple : mg "tuple" = none
  b_list : mg "list" = none
  b_len : mg "len" = none
  b_all : mg "all" = none
  c_LETTERS : mg "LETTERS" = some (.str lets tL)
/-- the promise of a test of data -/
def spD (pre : PyData → Prop) (f : PyData → Bool) : Sp := fun vs H Q _ => ∃ (v : V) (d : PyData), vs = [v] ∧ Dq H v d ∧ szD d = true ∧ pre d ∧ ∀ H', Kp [] H H' → Q (.bl (f d)) H'
def LowIn (z : Str) (D : Addr) (H : Hp) (i : Nat) (H' : Hp) : Prop := H' D = some (.lst ((z.cps.toList.take i).map fun c => V.bl (lowC c))) ∧ Kp [] H H'
theorem lets_mem (c : Nat) : decide (c ∈ lets.cps.toList) = lowC c := by
  have e : lets.cps.toList = (List.range 26).map (97 + ·) := by decide +kernel
  rw [e, Bool.eq_iff_iff, decide_eq_true_eq]
  unfold lowC
  rw [Bool.and_eq_true, decide_eq_true_eq, decide_eq_true_eq, List.mem_map]
  constructor
  · rintro ⟨i, hi, rfl⟩
    have := List.mem_range.mp hi
    omega
  · rintro ⟨h1, h2⟩
    exact ⟨c - 97, List.mem_range.mpr (by omega), by omega⟩
theorem all_take {α : Type} {f : α → Bool} {l : List α} : ((l.map fun c => f c).all id) = l.all f := by
  rw [List.all_map]; rfl
section
variable {P : Program} {w : World} {K : PySem.W.Frag} {mg : Str → Option Value} {base : Heap} {tL t1 t2 : Tok}
theorem ok_is_name {f : Addr} {fd : FuncData} (D : Df K mg "is_name" s_is_name ["value"] f fd) (T : Bt mg tL t1 t2) : FnOk P w K mg base CX0 1 f fd ["value"] (spD (fun _ => True) nameD) := by
  refine D.F.ok sc_is_name (fun vs H Q E h => ?_) (fun cdv A outer s H vs Q E hr h => ?_)
  · obtain ⟨a, m, rfl, _⟩ := h
    rfl
  · obtain ⟨v, d, rfl, hd, sz, _, q⟩ := h
    have hu := hu_of hr
    refine ⟨_, (pss_cons (ps_if (pt_not (pt_val (pe_callB (id := "isinstance") (r := rIsi K) call_isi (by rfl) T.b_isinstance (by decide +kernel) (pa_cons (pv 0) (pa_cons (pe_bltn (v := .ty "str") (by rfl) T.b_str (by decide +kernel) rfl) pa_nil))))) (pss_one (ps_ret pe_bl)) pss_nil)
      (pss_one (ps_ret (pe_and (pe_chain op_le op_le pe_int (pe_callB (id := "len") call_len_str (by rfl) T.b_len PySem.boot_len (pa_cons (pv 0) pa_nil)) pe_int) (pe_one (pe_callB (id := "all") (r := rAll K) (cr_all rfl) (by rfl) T.b_all (by decide +kernel) (pa_cons (pe_lc (own := [("letter", 1)]) (g := (gName 1)) (tt := tYes) rfl sc_is_name.nd (pi_str (pv 0)) (blkOk_by (N := ["value", "letter"]) (sc := defScope s_is_name) (by decide +kernel)) (fun _ _ _ _ _ => (pg_name (i := 1) sc_is_name.nd rfl (Or.inl rfl))) (fun _ _ _ _ _ => pts_nil) (fun _ _ _ _ _ => (pe_cmpR op_in_sign (pv 1) (pe_glob (v := .str lets) rfl T.c_LETTERS ⟨_, rfl⟩) (by rfl)))) pa_nil))))))), ?_⟩
    try simp (maxSteps := 1000000) only [tSeq, tIfS, tTest, tOp, tUn, tCB, tCons, tNil, tVar, tC, rI0, rI, rU, rEq, rNe, tRet, tRetN, tAsg, gName, gSub, tBM, tBM0, tNext, tB, tNot, tAnd, tOr, tIf, tCall, tDrop, tBreak, tCont, L2.start, tDGet, sDPut, tTup, tLst, tDNewK, tRevL, rCat, rAppend, rPop, rSetL, tAndV, tOrV, tNotV, tSl, tPart, tNoPart, tM1, gTup, gCons, gNil, cxK, cxnK, List.map_cons, List.map_nil, List.length_cons, List.length_nil, List.replicate, List.cons_append, List.nil_append, List.append_nil, List.set_cons_zero, List.set_cons_succ, List.getElem?_cons_zero, List.getElem?_cons_succ, Option.some.injEq, V.ref.injEq, V.int.injEq, V.str.injEq, V.bl.injEq, V.ty.injEq, exists_eq_left', exists_eq_left, exists_and_left, List.cons.injEq, and_true, true_and, sc_ii, sc_ss, sc_bb, sc_ni, sc_in, sc_is, sc_si, sc_nn, decide_true, decide_false, reduceCtorEq, Bool.false_eq_true, if_true, if_false, ite_true, ite_false, exists_const, eq_self, false_and, and_false, or_false, false_or, exists_false, Evl.rLenS, rSum, wipe, tYes, exists_eq, exists_eq', rIxL, rIxT, rIxS, exists_and_right, gt_iff_lt, not_true_eq_false, not_false_eq_true, Bool.not_true, Bool.not_false, decide_eq_true_eq, Nat.reduceSub, Nat.reduceAdd, List.append_assoc, tChain, tDIn, tDNotIn, sDDel, tAug, ipI, rInt1_int, rInt1_bl]
    refine isi_Dstr hd ?_
    try simp (maxSteps := 1000000) only [tSeq, tIfS, tTest, tOp, tUn, tCB, tCons, tNil, tVar, tC, rI0, rI, rU, rEq, rNe, tRet, tRetN, tAsg, gName, gSub, tBM, tBM0, tNext, tB, tNot, tAnd, tOr, tIf, tCall, tDrop, tBreak, tCont, L2.start, tDGet, sDPut, tTup, tLst, tDNewK, tRevL, rCat, rAppend, rPop, rSetL, tAndV, tOrV, tNotV, tSl, tPart, tNoPart, tM1, gTup, gCons, gNil, cxK, cxnK, List.map_cons, List.map_nil, List.length_cons, List.length_nil, List.replicate, List.cons_append, List.nil_append, List.append_nil, List.set_cons_zero, List.set_cons_succ, List.getElem?_cons_zero, List.getElem?_cons_succ, Option.some.injEq, V.ref.injEq, V.int.injEq, V.str.injEq, V.bl.injEq, V.ty.injEq, exists_eq_left', exists_eq_left, exists_and_left, List.cons.injEq, and_true, true_and, sc_ii, sc_ss, sc_bb, sc_ni, sc_in, sc_is, sc_si, sc_nn, decide_true, decide_false, reduceCtorEq, Bool.false_eq_true, if_true, if_false, ite_true, ite_false, exists_const, eq_self, false_and, and_false, or_false, false_or, exists_false, Evl.rLenS, rSum, wipe, tYes, exists_eq, exists_eq', rIxL, rIxT, rIxS, exists_and_right, gt_iff_lt, not_true_eq_false, not_false_eq_true, Bool.not_true, Bool.not_false, decide_eq_true_eq, Nat.reduceSub, Nat.reduceAdd, List.append_assoc, tChain, tDIn, tDNotIn, sDDel, tAug, ipI, rInt1_int, rInt1_bl]
    cases hd with
    | str z =>
      try simp (maxSteps := 1000000) only [tSeq, tIfS, tTest, tOp, tUn, tCB, tCons, tNil, tVar, tC, rI0, rI, rU, rEq, rNe, tRet, tRetN, tAsg, gName, gSub, tBM, tBM0, tNext, tB, tNot, tAnd, tOr, tIf, tCall, tDrop, tBreak, tCont, L2.start, tDGet, sDPut, tTup, tLst, tDNewK, tRevL, rCat, rAppend, rPop, rSetL, tAndV, tOrV, tNotV, tSl, tPart, tNoPart, tM1, gTup, gCons, gNil, cxK, cxnK, List.map_cons, List.map_nil, List.length_cons, List.length_nil, List.replicate, List.cons_append, List.nil_append, List.append_nil, List.set_cons_zero, List.set_cons_succ, List.getElem?_cons_zero, List.getElem?_cons_succ, Option.some.injEq, V.ref.injEq, V.int.injEq, V.str.injEq, V.bl.injEq, V.ty.injEq, exists_eq_left', exists_eq_left, exists_and_left, List.cons.injEq, and_true, true_and, sc_ii, sc_ss, sc_bb, sc_ni, sc_in, sc_is, sc_si, sc_nn, decide_true, decide_false, reduceCtorEq, Bool.false_eq_true, if_true, if_false, ite_true, ite_false, exists_const, eq_self, false_and, and_false, or_false, false_or, exists_false, Evl.rLenS, rSum, wipe, tYes, exists_eq, exists_eq', rIxL, rIxT, rIxS, exists_and_right, gt_iff_lt, not_true_eq_false, not_false_eq_true, Bool.not_true, Bool.not_false, decide_eq_true_eq, Nat.reduceSub, Nat.reduceAdd, List.append_assoc, tChain, tDIn, tDNotIn, sDDel, tAug, ipI, rInt1_int, rInt1_bl, isStrD]
      have zs : z.cps.toList.length = z.length := Array.length_toList
      have zl : z.length ≤ 1000 := of_decide_eq_true sz
      have q' : ∀ H', Kp [] H H' → Q (.bl (nameS z)) H' := q
      unfold nameS at q'
      refine ⟨small (by omega), ?_⟩
      by_cases h1 : 1 ≤ z.length
      · by_cases h8 : z.length ≤ 8
        · have e1 : (1 : Int) ≤ (z.length : Nat) := by omega
          have e8 : ((z.length : Nat) : Int) ≤ 8 := by omega
          rw [decide_eq_true h1, decide_eq_true h8] at q'
          rw [if_pos e1, if_pos e8]
          refine ⟨.str z, rfl, z, rfl, fun o no => lc_it walk_str (LowIn z o H) ⟨upd_same, Kp.new no⟩ (fun _ _ _ _ => True.intro) ?_ ?_⟩
          · rintro i x H1 H2 hi ⟨ho, kp⟩ ⟨rfl, c, hc, rfl⟩
            try simp (maxSteps := 1000000) only [tSeq, tIfS, tTest, tOp, tUn, tCB, tCons, tNil, tVar, tC, rI0, rI, rU, rEq, rNe, tRet, tRetN, tAsg, gName, gSub, tBM, tBM0, tNext, tB, tNot, tAnd, tOr, tIf, tCall, tDrop, tBreak, tCont, L2.start, tDGet, sDPut, tTup, tLst, tDNewK, tRevL, rCat, rAppend, rPop, rSetL, tAndV, tOrV, tNotV, tSl, tPart, tNoPart, tM1, gTup, gCons, gNil, cxK, cxnK, List.map_cons, List.map_nil, List.length_cons, List.length_nil, List.replicate, List.cons_append, List.nil_append, List.append_nil, List.set_cons_zero, List.set_cons_succ, List.getElem?_cons_zero, List.getElem?_cons_succ, Option.some.injEq, V.ref.injEq, V.int.injEq, V.str.injEq, V.bl.injEq, V.ty.injEq, exists_eq_left', exists_eq_left, exists_and_left, List.cons.injEq, and_true, true_and, sc_ii, sc_ss, sc_bb, sc_ni, sc_in, sc_is, sc_si, sc_nn, decide_true, decide_false, reduceCtorEq, Bool.false_eq_true, if_true, if_false, ite_true, ite_false, exists_const, eq_self, false_and, and_false, or_false, false_or, exists_false, Evl.rLenS, rSum, wipe, tYes, exists_eq, exists_eq', rIxL, rIxT, rIxS, exists_and_right, gt_iff_lt, not_true_eq_false, not_false_eq_true, Bool.not_true, Bool.not_false, decide_eq_true_eq, Nat.reduceSub, Nat.reduceAdd, List.append_assoc, tChain, tDIn, tDNotIn, sDDel, tAug, ipI, rInt1_int, rInt1_bl]
            refine ⟨c, rfl, _, ho, ?_, ?_, kp.wr no⟩
            · rw [List.length_map, List.length_take, zs]; exact smallL (by omega)
            · rw [upd_same, lets_mem, take_snoc (x := c) (by rw [← hc]; simp), List.map_append]; rfl
          · rintro H1 ⟨ho, kp⟩
            have q2 := q' H1 kp
            rw [← all_take] at q2
            refine ⟨_, z.cps.toList.map lowC, rfl, sq_l (ho.trans ?_), ?_⟩
            · rw [List.take_of_length_le (by simp), List.map_map]; rfl
            · simpa using q2
        · have e1 : (1 : Int) ≤ (z.length : Nat) := by omega
          have e8 : ¬ ((z.length : Nat) : Int) ≤ 8 := by omega
          rw [decide_eq_true h1, decide_eq_false h8] at q'
          rw [if_pos e1, if_neg e8]
          exact q' _ (Kp.refl _ _)
      · have e1 : ¬ (1 : Int) ≤ (z.length : Nat) := by omega
        rw [decide_eq_false h1] at q'
        rw [if_neg e1]
        exact q' _ (Kp.refl _ _)
    | _ => exact q H (Kp.refl _ _)

def spBelow : Sp := fun vs H Q _ => ∃ (v : V) (d : PyData) (m : Int), vs = [v, .int m] ∧ Dq H v d ∧ Q (.bl (belowD m d)) H
theorem ok_is_below {f : Addr} {fd : FuncData} (D : Df K mg "is_below" s_is_below ["value", "bound"] f fd) (T : Bt mg tL t1 t2) : FnOk P w K mg base CX0 1 f fd ["value", "bound"] spBelow := by
  refine D.F.ok sc_is_below (fun vs H Q E h => ?_) (fun cdv A outer s H vs Q E hr h => ?_)
  · obtain ⟨v, d, m, rfl, _⟩ := h
    rfl
  · obtain ⟨v, d, m, rfl, hd, q⟩ := h
    refine ⟨_, (pss_one (ps_ret (pe_and (pe_callB (id := "isinstance") (r := rIsi K) call_isi (by rfl) T.b_isinstance (by decide +kernel) (pa_cons (pv 0) (pa_cons (pe_bltn (v := .ty "int") (by rfl) T.b_int (by decide +kernel) rfl) pa_nil))) (pe_and (pe_not (pe_callB (id := "isinstance") (r := rIsi K) call_isi (by rfl) T.b_isinstance (by decide +kernel) (pa_cons (pv 0) (pa_cons (pe_bltn (v := .ty "bool") (by rfl) T.b_bool (by decide +kernel) rfl) pa_nil)))) (pe_one (pe_chain op_le op_lt pe_int (pv 0) (pv 1))))))), ?_⟩
    try simp (maxSteps := 1000000) only [tSeq, tIfS, tTest, tOp, tUn, tCB, tCons, tNil, tVar, tC, rI0, rI, rU, rEq, rNe, tRet, tRetN, tAsg, gName, gSub, tBM, tBM0, tNext, tB, tNot, tAnd, tOr, tIf, tCall, tDrop, tBreak, tCont, L2.start, tDGet, sDPut, tTup, tLst, tDNewK, tRevL, rCat, rAppend, rPop, rSetL, tAndV, tOrV, tNotV, tSl, tPart, tNoPart, tM1, gTup, gCons, gNil, cxK, cxnK, List.map_cons, List.map_nil, List.length_cons, List.length_nil, List.replicate, List.cons_append, List.nil_append, List.append_nil, List.set_cons_zero, List.set_cons_succ, List.getElem?_cons_zero, List.getElem?_cons_succ, Option.some.injEq, V.ref.injEq, V.int.injEq, V.str.injEq, V.bl.injEq, V.ty.injEq, exists_eq_left', exists_eq_left, exists_and_left, List.cons.injEq, and_true, true_and, sc_ii, sc_ss, sc_bb, sc_ni, sc_in, sc_is, sc_si, sc_nn, decide_true, decide_false, reduceCtorEq, Bool.false_eq_true, if_true, if_false, ite_true, ite_false, exists_const, eq_self, false_and, and_false, or_false, false_or, exists_false, Evl.rLenS, rSum, wipe, tYes, exists_eq, exists_eq', rIxL, rIxT, rIxS, exists_and_right, gt_iff_lt, not_true_eq_false, not_false_eq_true, Bool.not_true, Bool.not_false, decide_eq_true_eq, Nat.reduceSub, Nat.reduceAdd, List.append_assoc, tChain, tDIn, tDNotIn, sDDel, tAug, ipI, rInt1_int, rInt1_bl]
    refine isi_Dint hd ?_
    cases hd with
    | int i =>
      try simp (maxSteps := 1000000) only [tSeq, tIfS, tTest, tOp, tUn, tCB, tCons, tNil, tVar, tC, rI0, rI, rU, rEq, rNe, tRet, tRetN, tAsg, gName, gSub, tBM, tBM0, tNext, tB, tNot, tAnd, tOr, tIf, tCall, tDrop, tBreak, tCont, L2.start, tDGet, sDPut, tTup, tLst, tDNewK, tRevL, rCat, rAppend, rPop, rSetL, tAndV, tOrV, tNotV, tSl, tPart, tNoPart, tM1, gTup, gCons, gNil, cxK, cxnK, List.map_cons, List.map_nil, List.length_cons, List.length_nil, List.replicate, List.cons_append, List.nil_append, List.append_nil, List.set_cons_zero, List.set_cons_succ, List.getElem?_cons_zero, List.getElem?_cons_succ, Option.some.injEq, V.ref.injEq, V.int.injEq, V.str.injEq, V.bl.injEq, V.ty.injEq, exists_eq_left', exists_eq_left, exists_and_left, List.cons.injEq, and_true, true_and, sc_ii, sc_ss, sc_bb, sc_ni, sc_in, sc_is, sc_si, sc_nn, decide_true, decide_false, reduceCtorEq, Bool.false_eq_true, if_true, if_false, ite_true, ite_false, exists_const, eq_self, false_and, and_false, or_false, false_or, exists_false, Evl.rLenS, rSum, wipe, tYes, exists_eq, exists_eq', rIxL, rIxT, rIxS, exists_and_right, gt_iff_lt, not_true_eq_false, not_false_eq_true, Bool.not_true, Bool.not_false, decide_eq_true_eq, Nat.reduceSub, Nat.reduceAdd, List.append_assoc, tChain, tDIn, tDNotIn, sDDel, tAug, ipI, rInt1_int, rInt1_bl, isIntD]
      refine isi_int_bool ?_
      try simp (maxSteps := 1000000) only [tSeq, tIfS, tTest, tOp, tUn, tCB, tCons, tNil, tVar, tC, rI0, rI, rU, rEq, rNe, tRet, tRetN, tAsg, gName, gSub, tBM, tBM0, tNext, tB, tNot, tAnd, tOr, tIf, tCall, tDrop, tBreak, tCont, L2.start, tDGet, sDPut, tTup, tLst, tDNewK, tRevL, rCat, rAppend, rPop, rSetL, tAndV, tOrV, tNotV, tSl, tPart, tNoPart, tM1, gTup, gCons, gNil, cxK, cxnK, List.map_cons, List.map_nil, List.length_cons, List.length_nil, List.replicate, List.cons_append, List.nil_append, List.append_nil, List.set_cons_zero, List.set_cons_succ, List.getElem?_cons_zero, List.getElem?_cons_succ, Option.some.injEq, V.ref.injEq, V.int.injEq, V.str.injEq, V.bl.injEq, V.ty.injEq, exists_eq_left', exists_eq_left, exists_and_left, List.cons.injEq, and_true, true_and, sc_ii, sc_ss, sc_bb, sc_ni, sc_in, sc_is, sc_si, sc_nn, decide_true, decide_false, reduceCtorEq, Bool.false_eq_true, if_true, if_false, ite_true, ite_false, exists_const, eq_self, false_and, and_false, or_false, false_or, exists_false, Evl.rLenS, rSum, wipe, tYes, exists_eq, exists_eq', rIxL, rIxT, rIxS, exists_and_right, gt_iff_lt, not_true_eq_false, not_false_eq_true, Bool.not_true, Bool.not_false, decide_eq_true_eq, Nat.reduceSub, Nat.reduceAdd, List.append_assoc, tChain, tDIn, tDNotIn, sDDel, tAug, ipI, rInt1_int, rInt1_bl]
      by_cases h0 : 0 ≤ i
      · simp only [h0, decide_true, if_true]
        have q' : Q (.bl (decide (0 ≤ i) && decide (i < m))) H := q
        rw [decide_eq_true h0] at q'
        exact q'
      · simp only [h0, decide_false, Bool.false_eq_true, if_false]
        have q' : Q (.bl (decide (0 ≤ i) && decide (i < m))) H := q
        rw [decide_eq_false h0] at q'
        exact q'
    | bl b =>
      try simp (maxSteps := 1000000) only [tSeq, tIfS, tTest, tOp, tUn, tCB, tCons, tNil, tVar, tC, rI0, rI, rU, rEq, rNe, tRet, tRetN, tAsg, gName, gSub, tBM, tBM0, tNext, tB, tNot, tAnd, tOr, tIf, tCall, tDrop, tBreak, tCont, L2.start, tDGet, sDPut, tTup, tLst, tDNewK, tRevL, rCat, rAppend, rPop, rSetL, tAndV, tOrV, tNotV, tSl, tPart, tNoPart, tM1, gTup, gCons, gNil, cxK, cxnK, List.map_cons, List.map_nil, List.length_cons, List.length_nil, List.replicate, List.cons_append, List.nil_append, List.append_nil, List.set_cons_zero, List.set_cons_succ, List.getElem?_cons_zero, List.getElem?_cons_succ, Option.some.injEq, V.ref.injEq, V.int.injEq, V.str.injEq, V.bl.injEq, V.ty.injEq, exists_eq_left', exists_eq_left, exists_and_left, List.cons.injEq, and_true, true_and, sc_ii, sc_ss, sc_bb, sc_ni, sc_in, sc_is, sc_si, sc_nn, decide_true, decide_false, reduceCtorEq, Bool.false_eq_true, if_true, if_false, ite_true, ite_false, exists_const, eq_self, false_and, and_false, or_false, false_or, exists_false, Evl.rLenS, rSum, wipe, tYes, exists_eq, exists_eq', rIxL, rIxT, rIxS, exists_and_right, gt_iff_lt, not_true_eq_false, not_false_eq_true, Bool.not_true, Bool.not_false, decide_eq_true_eq, Nat.reduceSub, Nat.reduceAdd, List.append_assoc, tChain, tDIn, tDNotIn, sDDel, tAug, ipI, rInt1_int, rInt1_bl, isIntD]
      refine isi_bl_bool ?_
      try simp (maxSteps := 1000000) only [tSeq, tIfS, tTest, tOp, tUn, tCB, tCons, tNil, tVar, tC, rI0, rI, rU, rEq, rNe, tRet, tRetN, tAsg, gName, gSub, tBM, tBM0, tNext, tB, tNot, tAnd, tOr, tIf, tCall, tDrop, tBreak, tCont, L2.start, tDGet, sDPut, tTup, tLst, tDNewK, tRevL, rCat, rAppend, rPop, rSetL, tAndV, tOrV, tNotV, tSl, tPart, tNoPart, tM1, gTup, gCons, gNil, cxK, cxnK, List.map_cons, List.map_nil, List.length_cons, List.length_nil, List.replicate, List.cons_append, List.nil_append, List.append_nil, List.set_cons_zero, List.set_cons_succ, List.getElem?_cons_zero, List.getElem?_cons_succ, Option.some.injEq, V.ref.injEq, V.int.injEq, V.str.injEq, V.bl.injEq, V.ty.injEq, exists_eq_left', exists_eq_left, exists_and_left, List.cons.injEq, and_true, true_and, sc_ii, sc_ss, sc_bb, sc_ni, sc_in, sc_is, sc_si, sc_nn, decide_true, decide_false, reduceCtorEq, Bool.false_eq_true, if_true, if_false, ite_true, ite_false, exists_const, eq_self, false_and, and_false, or_false, false_or, exists_false, Evl.rLenS, rSum, wipe, tYes, exists_eq, exists_eq', rIxL, rIxT, rIxS, exists_and_right, gt_iff_lt, not_true_eq_false, not_false_eq_true, Bool.not_true, Bool.not_false, decide_eq_true_eq, Nat.reduceSub, Nat.reduceAdd, List.append_assoc, tChain, tDIn, tDNotIn, sDDel, tAug, ipI, rInt1_int, rInt1_bl]
      exact q
    | _ =>
      try simp (maxSteps := 1000000) only [tSeq, tIfS, tTest, tOp, tUn, tCB, tCons, tNil, tVar, tC, rI0, rI, rU, rEq, rNe, tRet, tRetN, tAsg, gName, gSub, tBM, tBM0, tNext, tB, tNot, tAnd, tOr, tIf, tCall, tDrop, tBreak, tCont, L2.start, tDGet, sDPut, tTup, tLst, tDNewK, tRevL, rCat, rAppend, rPop, rSetL, tAndV, tOrV, tNotV, tSl, tPart, tNoPart, tM1, gTup, gCons, gNil, cxK, cxnK, List.map_cons, List.map_nil, List.length_cons, List.length_nil, List.replicate, List.cons_append, List.nil_append, List.append_nil, List.set_cons_zero, List.set_cons_succ, List.getElem?_cons_zero, List.getElem?_cons_succ, Option.some.injEq, V.ref.injEq, V.int.injEq, V.str.injEq, V.bl.injEq, V.ty.injEq, exists_eq_left', exists_eq_left, exists_and_left, List.cons.injEq, and_true, true_and, sc_ii, sc_ss, sc_bb, sc_ni, sc_in, sc_is, sc_si, sc_nn, decide_true, decide_false, reduceCtorEq, Bool.false_eq_true, if_true, if_false, ite_true, ite_false, exists_const, eq_self, false_and, and_false, or_false, false_or, exists_false, Evl.rLenS, rSum, wipe, tYes, exists_eq, exists_eq', rIxL, rIxT, rIxS, exists_and_right, gt_iff_lt, not_true_eq_false, not_false_eq_true, Bool.not_true, Bool.not_false, decide_eq_true_eq, Nat.reduceSub, Nat.reduceAdd, List.append_assoc, tChain, tDIn, tDNotIn, sDDel, tAug, ipI, rInt1_int, rInt1_bl, isIntD]
      exact q
theorem ok_is_number {f : Addr} {fd : FuncData} (D : Df K mg "is_number" s_is_number ["value"] f fd) (T : Bt mg tL t1 t2) {fb : Addr} {fdb : FuncData} (D_is_below : Df K mg "is_below" s_is_below ["value", "bound"] fb fdb) (G_is_below : FnOk P w K mg base CX0 1 fb fdb ["value", "bound"] spBelow) :
    FnOk P w K mg base CX0 2 f fd ["value"] (spD (fun _ => True) (belowD 10)) := by
  refine D.F.ok sc_is_number (fun vs H Q E h => ?_) (fun cdv A outer s H vs Q E hr h => ?_)
  · obtain ⟨v, d, rfl, _⟩ := h
    rfl
  · obtain ⟨v, d, rfl, hd, _, _, q⟩ := h
    refine ⟨_, (pss_one (ps_ret (pe_call G_is_below (hr.mono (by decide)) rfl D_is_below.g D_is_below.F.kp D_is_below.b .nil pass0 (pa_cons (pv 0) (pa_cons pe_int pa_nil))))), ?_⟩
    try simp (maxSteps := 1000000) only [tSeq, tIfS, tTest, tOp, tUn, tCB, tCons, tNil, tVar, tC, rI0, rI, rU, rEq, rNe, tRet, tRetN, tAsg, gName, gSub, tBM, tBM0, tNext, tB, tNot, tAnd, tOr, tIf, tCall, tDrop, tBreak, tCont, L2.start, tDGet, sDPut, tTup, tLst, tDNewK, tRevL, rCat, rAppend, rPop, rSetL, tAndV, tOrV, tNotV, tSl, tPart, tNoPart, tM1, gTup, gCons, gNil, cxK, cxnK, List.map_cons, List.map_nil, List.length_cons, List.length_nil, List.replicate, List.cons_append, List.nil_append, List.append_nil, List.set_cons_zero, List.set_cons_succ, List.getElem?_cons_zero, List.getElem?_cons_succ, Option.some.injEq, V.ref.injEq, V.int.injEq, V.str.injEq, V.bl.injEq, V.ty.injEq, exists_eq_left', exists_eq_left, exists_and_left, List.cons.injEq, and_true, true_and, sc_ii, sc_ss, sc_bb, sc_ni, sc_in, sc_is, sc_si, sc_nn, decide_true, decide_false, reduceCtorEq, Bool.false_eq_true, if_true, if_false, ite_true, ite_false, exists_const, eq_self, false_and, and_false, or_false, false_or, exists_false, Evl.rLenS, rSum, wipe, tYes, exists_eq, exists_eq', rIxL, rIxT, rIxS, exists_and_right, gt_iff_lt, not_true_eq_false, not_false_eq_true, Bool.not_true, Bool.not_false, decide_eq_true_eq, Nat.reduceSub, Nat.reduceAdd, List.append_assoc, tChain, tDIn, tDNotIn, sDDel, tAug, ipI, rInt1_int, rInt1_bl]
    exact ⟨v, d, 10, rfl, hd, q H (Kp.refl _ _)⟩

/-! ### deeds -/
def wordD (x : PyData) : PyData → Bool
  | .str w => if w = ("call" : Str) then nameD x else (decide (w = ("return" : Str)) || decide (w = ("step" : Str))) && belowD 10 x
  | _ => false
def deedB : PyData → Bool
  | .tuple [c, w, x] => belowD 3 c && wordD x w
  | _ => false
def GoodDd (d : Dd) : Prop := 0 ≤ d.1 ∧ d.1 < 3 ∧ ((d.2.1 = "call" ∧ ∃ z, d.2.2 = .inr z ∧ nameS z = true) ∨ ((d.2.1 = "return" ∨ d.2.1 = "step") ∧ ∃ i : Int, d.2.2 = .inl i ∧ 0 ≤ i ∧ i < 10))
theorem below_iff {m : Int} {d : PyData} : belowD m d = true ↔ ∃ i : Int, d = .int i ∧ 0 ≤ i ∧ i < m := by
  cases d with
  | int i =>
    show (decide (0 ≤ i) && decide (i < m)) = true ↔ _
    rw [Bool.and_eq_true, decide_eq_true_eq, decide_eq_true_eq]
    exact ⟨fun h => ⟨i, rfl, h.1, h.2⟩, fun ⟨j, e, h⟩ => by cases e; exact h⟩
  | _ => exact ⟨(fun h => by cases h), (fun ⟨_, e, _⟩ => by cases e)⟩
/-- at t stands the tuple of the deed d -/
def TD (H : Hp) (t : Addr) (d : Dd) : Prop := H t = some (.tup [.int d.1, .str d.2.1, kV d.2.2])
theorem TD.dq {H : Hp} {t : Addr} {d : Dd} (h : TD H t d) : Dq H (.ref t) (ddD d) := .tup h (.cons (.int _) (.cons (.str _) (.cons (by cases d.2.2 with | inl i => exact .int i | inr z => exact .str z) .nil)))
def spDeed : Sp := fun vs H Q _ => ∃ (t : Addr) (d : Dd), vs = [.ref t] ∧ TD H t d ∧ GoodDd d ∧ ∀ H', Kp [] H H' → Q (.bl true) H'
def visB (d : Dd) : Bool := decide (d.2.1 ≠ "step")
def spVis : Sp := fun vs H Q _ => ∃ (t : Addr) (d : Dd), vs = [.ref t] ∧ TD H t d ∧ Q (.bl (visB d)) H
theorem ok_is_deed {f : Addr} {fd : FuncData} (D : Df K mg "is_deed" s_is_deed ["value"] f fd) (T : Bt mg tL t1 t2) {fn : Addr} {fdn : FuncData} (D_is_name : Df K mg "is_name" s_is_name ["value"] fn fdn) (G_is_name : FnOk P w K mg base CX0 1 fn fdn ["value"] (spD (fun _ => True) nameD))
    {fb : Addr} {fdb : FuncData} (D_is_below : Df K mg "is_below" s_is_below ["value", "bound"] fb fdb) (G_is_below : FnOk P w K mg base CX0 1 fb fdb ["value", "bound"] spBelow) {fu : Addr} {fdu : FuncData} (D_is_number : Df K mg "is_number" s_is_number ["value"] fu fdu) (G_is_number : FnOk P w K mg base CX0 2 fu fdu ["value"] (spD (fun _ => True) (belowD 10))) :
    FnOk P w K mg base CX0 3 f fd ["value"] spDeed := by
  refine D.F.ok sc_is_deed (fun vs H Q E h => ?_) (fun cdv A outer s H vs Q E hr h => ?_)
  · obtain ⟨t, d, rfl, _⟩ := h
    rfl
  · obtain ⟨t, ⟨c, wd, k⟩, rfl, hd, ⟨c0, c3, gd⟩, q⟩ := h
    have hd : H t = some (.tup [.int c, .str wd, kV k]) := hd
    refine ⟨_, (pss_cons (ps_if (PW.pt (pw_or (pt_not (pt_val (pe_callB (id := "isinstance") (r := rIsi K) call_isi (by rfl) T.b_isinstance (by decide +kernel) (pa_cons (pv 0) (pa_cons (pe_bltn (v := .ty "tuple") (by rfl) T.b_tuple (by decide +kernel) rfl) pa_nil))))) (pw_or1 (pt_cmpR op_ne (pe_callB (id := "len") (r := Evl.rLenS K) call_len_seq (by rfl) T.b_len PySem.boot_len (pa_cons (pv 0) pa_nil)) pe_int (nomark _))))) (pss_one (ps_ret pe_bl)) pss_nil)
      (pss_cons (ps_asg (pv 0) (pg_tup (n := 3) (by rfl) (pgs_cons (pg_name (i := 1) sc_is_deed.nd rfl (Or.inl rfl)) (pgs_cons (pg_name (i := 2) sc_is_deed.nd rfl (Or.inl rfl)) (pgs_cons (pg_name (i := 3) sc_is_deed.nd rfl (Or.inl rfl)) pgs_nil)))))
      (pss_cons (ps_if (PW.pt (pw_or (pt_not (pt_val (pe_call G_is_below (hr.mono (by decide)) rfl D_is_below.g D_is_below.F.kp D_is_below.b .nil pass0 (pa_cons (pv 1) (pa_cons pe_int pa_nil))))) (pw_or1 (pt_not (pt_val (pe_callB (id := "isinstance") (r := rIsi K) call_isi (by rfl) T.b_isinstance (by decide +kernel) (pa_cons (pv 2) (pa_cons (pe_bltn (v := .ty "str") (by rfl) T.b_str (by decide +kernel) rfl) pa_nil)))))))) (pss_one (ps_ret pe_bl)) pss_nil)
      (pss_cons (ps_if (pt_cmpR op_eq (pv 2) pe_str (nomark _)) (pss_one (ps_ret (pe_call G_is_name (hr.mono (by decide)) rfl D_is_name.g D_is_name.F.kp D_is_name.b .nil pass0 (pa_cons (pv 3) pa_nil)))) pss_nil)
      (pss_one (ps_ret (pe_and (pe_cmpR op_in_seq (pv 2) (pe_tup (pa_cons pe_str (pa_cons pe_str pa_nil))) (by rfl)) (pe_one (pe_call G_is_number (hr.mono (by decide)) rfl D_is_number.g D_is_number.F.kp D_is_number.b .nil pass0 (pa_cons (pv 3) pa_nil)))))))))), ?_⟩
    try simp (maxSteps := 1000000) only [tSeq, tIfS, tTest, tOp, tUn, tCB, tCons, tNil, tVar, tC, rI0, rI, rU, rEq, rNe, tRet, tRetN, tAsg, gName, gSub, tBM, tBM0, tNext, tB, tNot, tAnd, tOr, tIf, tCall, tDrop, tBreak, tCont, L2.start, tDGet, sDPut, tTup, tLst, tDNewK, tRevL, rCat, rAppend, rPop, rSetL, tAndV, tOrV, tNotV, tSl, tPart, tNoPart, tM1, gTup, gCons, gNil, cxK, cxnK, List.map_cons, List.map_nil, List.length_cons, List.length_nil, List.replicate, List.cons_append, List.nil_append, List.append_nil, List.set_cons_zero, List.set_cons_succ, List.getElem?_cons_zero, List.getElem?_cons_succ, Option.some.injEq, V.ref.injEq, V.int.injEq, V.str.injEq, V.bl.injEq, V.ty.injEq, exists_eq_left', exists_eq_left, exists_and_left, List.cons.injEq, and_true, true_and, sc_ii, sc_ss, sc_bb, sc_ni, sc_in, sc_is, sc_si, sc_nn, decide_true, decide_false, reduceCtorEq, Bool.false_eq_true, if_true, if_false, ite_true, ite_false, exists_const, eq_self, false_and, and_false, or_false, false_or, exists_false, Evl.rLenS, rSum, wipe, tYes, exists_eq, exists_eq', rIxL, rIxT, rIxS, exists_and_right, gt_iff_lt, not_true_eq_false, not_false_eq_true, Bool.not_true, Bool.not_false, decide_eq_true_eq, Nat.reduceSub, Nat.reduceAdd, List.append_assoc, tChain, tDIn, tDNotIn, sDDel, tAug, ipI, rInt1_int, rInt1_bl]
    refine isi_Dtup (TD.dq (d := (c, wd, k)) hd) ⟨true, rfl, ?_⟩
    rw [if_neg (by decide)]
    refine ⟨_, .inr (sq_t hd), ?_⟩
    rw [if_neg (show ¬ (!decide ((([V.int c, V.str wd, kV k].length : Nat) : Int) = 3)) = true by rw [show [V.int c, V.str wd, kV k].length = 3 from rfl]; decide)]
    refine ⟨_, sq_t hd, rfl, _, _, rfl, _, _, rfl, _, _, rfl, rfl, _, _, _, rfl, .int c, ?_⟩
    refine ⟨_, rfl, ?_⟩
    rw [show belowD 3 (.int c) = true by exact below_iff.mpr ⟨c, rfl, c0, c3⟩]
    try simp (maxSteps := 1000000) only [tSeq, tIfS, tTest, tOp, tUn, tCB, tCons, tNil, tVar, tC, rI0, rI, rU, rEq, rNe, tRet, tRetN, tAsg, gName, gSub, tBM, tBM0, tNext, tB, tNot, tAnd, tOr, tIf, tCall, tDrop, tBreak, tCont, L2.start, tDGet, sDPut, tTup, tLst, tDNewK, tRevL, rCat, rAppend, rPop, rSetL, tAndV, tOrV, tNotV, tSl, tPart, tNoPart, tM1, gTup, gCons, gNil, cxK, cxnK, List.map_cons, List.map_nil, List.length_cons, List.length_nil, List.replicate, List.cons_append, List.nil_append, List.append_nil, List.set_cons_zero, List.set_cons_succ, List.getElem?_cons_zero, List.getElem?_cons_succ, Option.some.injEq, V.ref.injEq, V.int.injEq, V.str.injEq, V.bl.injEq, V.ty.injEq, exists_eq_left', exists_eq_left, exists_and_left, List.cons.injEq, and_true, true_and, sc_ii, sc_ss, sc_bb, sc_ni, sc_in, sc_is, sc_si, sc_nn, decide_true, decide_false, reduceCtorEq, Bool.false_eq_true, if_true, if_false, ite_true, ite_false, exists_const, eq_self, false_and, and_false, or_false, false_or, exists_false, Evl.rLenS, rSum, wipe, tYes, exists_eq, exists_eq', rIxL, rIxT, rIxS, exists_and_right, gt_iff_lt, not_true_eq_false, not_false_eq_true, Bool.not_true, Bool.not_false, decide_eq_true_eq, Nat.reduceSub, Nat.reduceAdd, List.append_assoc, tChain, tDIn, tDNotIn, sDDel, tAug, ipI, rInt1_int, rInt1_bl]
    refine isi_Dstr (.str wd) ?_
    try simp (maxSteps := 1000000) only [tSeq, tIfS, tTest, tOp, tUn, tCB, tCons, tNil, tVar, tC, rI0, rI, rU, rEq, rNe, tRet, tRetN, tAsg, gName, gSub, tBM, tBM0, tNext, tB, tNot, tAnd, tOr, tIf, tCall, tDrop, tBreak, tCont, L2.start, tDGet, sDPut, tTup, tLst, tDNewK, tRevL, rCat, rAppend, rPop, rSetL, tAndV, tOrV, tNotV, tSl, tPart, tNoPart, tM1, gTup, gCons, gNil, cxK, cxnK, List.map_cons, List.map_nil, List.length_cons, List.length_nil, List.replicate, List.cons_append, List.nil_append, List.append_nil, List.set_cons_zero, List.set_cons_succ, List.getElem?_cons_zero, List.getElem?_cons_succ, Option.some.injEq, V.ref.injEq, V.int.injEq, V.str.injEq, V.bl.injEq, V.ty.injEq, exists_eq_left', exists_eq_left, exists_and_left, List.cons.injEq, and_true, true_and, sc_ii, sc_ss, sc_bb, sc_ni, sc_in, sc_is, sc_si, sc_nn, decide_true, decide_false, reduceCtorEq, Bool.false_eq_true, if_true, if_false, ite_true, ite_false, exists_const, eq_self, false_and, and_false, or_false, false_or, exists_false, Evl.rLenS, rSum, wipe, tYes, exists_eq, exists_eq', rIxL, rIxT, rIxS, exists_and_right, gt_iff_lt, not_true_eq_false, not_false_eq_true, Bool.not_true, Bool.not_false, decide_eq_true_eq, Nat.reduceSub, Nat.reduceAdd, List.append_assoc, tChain, tDIn, tDNotIn, sDDel, tAug, ipI, rInt1_int, rInt1_bl, isStrD]
    rcases gd with ⟨hw, z, hx, hz⟩ | ⟨hw, j, hx, j0, j9⟩
    · have hw : wd = ("call" : Str) := hw
      have hx : k = .inr z := hx
      subst hw hx
      rw [if_pos rfl]
      have z8 : z.length ≤ 8 := by
        unfold nameS at hz
        rw [Bool.and_eq_true, Bool.and_eq_true] at hz
        exact of_decide_eq_true hz.2.1
      exact ⟨_, _, rfl, .str z, decide_eq_true (show z.length ≤ 1000 by omega), True.intro, fun H' k => by
        rw [show nameD (.str z) = true from hz]
        exact q H' k⟩
    · have hx : k = .inl j := hx
      have nc : ¬ wd = ("call" : Str) := fun e => by
        have e : wd = ("call" : Str) := e
        rcases hw with h | h
        · have h : wd = ("return" : Str) := h
          rw [h] at e
          exact absurd e (by decide +kernel)
        · have h : wd = ("step" : Str) := h
          rw [h] at e
          exact absurd e (by decide +kernel)
      rw [if_neg nc]
      refine ⟨by rw [sizeLine_eq]; decide, fun p hp => ⟨p, [V.str (Str.ofString "return"), V.str (Str.ofString "step")], rfl, .inr (sq_t upd_same), rfl, rfl, _, rfl, ?_⟩⟩
      have i2 : inV (V.str wd) [V.str (Str.ofString "return"), V.str (Str.ofString "step")] = true := by
        rcases hw with h | h
        · have h : wd = ("return" : Str) := h
          subst h; decide +kernel
        · have h : wd = ("step" : Str) := h
          subst h; decide +kernel
      rw [i2]
      try simp (maxSteps := 1000000) only [tSeq, tIfS, tTest, tOp, tUn, tCB, tCons, tNil, tVar, tC, rI0, rI, rU, rEq, rNe, tRet, tRetN, tAsg, gName, gSub, tBM, tBM0, tNext, tB, tNot, tAnd, tOr, tIf, tCall, tDrop, tBreak, tCont, L2.start, tDGet, sDPut, tTup, tLst, tDNewK, tRevL, rCat, rAppend, rPop, rSetL, tAndV, tOrV, tNotV, tSl, tPart, tNoPart, tM1, gTup, gCons, gNil, cxK, cxnK, List.map_cons, List.map_nil, List.length_cons, List.length_nil, List.replicate, List.cons_append, List.nil_append, List.append_nil, List.set_cons_zero, List.set_cons_succ, List.getElem?_cons_zero, List.getElem?_cons_succ, Option.some.injEq, V.ref.injEq, V.int.injEq, V.str.injEq, V.bl.injEq, V.ty.injEq, exists_eq_left', exists_eq_left, exists_and_left, List.cons.injEq, and_true, true_and, sc_ii, sc_ss, sc_bb, sc_ni, sc_in, sc_is, sc_si, sc_nn, decide_true, decide_false, reduceCtorEq, Bool.false_eq_true, if_true, if_false, ite_true, ite_false, exists_const, eq_self, false_and, and_false, or_false, false_or, exists_false, Evl.rLenS, rSum, wipe, tYes, exists_eq, exists_eq', rIxL, rIxT, rIxS, exists_and_right, gt_iff_lt, not_true_eq_false, not_false_eq_true, Bool.not_true, Bool.not_false, decide_eq_true_eq, Nat.reduceSub, Nat.reduceAdd, List.append_assoc, tChain, tDIn, tDNotIn, sDDel, tAug, ipI, rInt1_int, rInt1_bl]
      subst hx
      exact ⟨_, .int j, rfl, .int j, rfl, True.intro, fun H' k => by
        rw [show belowD 10 (.int j) = true from below_iff.mpr ⟨j, rfl, j0, j9⟩]
        exact q H' ((Kp.new hp).trans k)⟩
theorem ok_is_visible {f : Addr} {fd : FuncData} (D : Df K mg "is_visible" s_is_visible ["deed"] f fd) (T : Bt mg tL t1 t2) : FnOk P w K mg base CX0 1 f fd ["deed"] spVis := by
  refine D.F.ok sc_is_visible (fun vs H Q E h => ?_) (fun cdv A outer s H vs Q E hr h => ?_)
  · obtain ⟨t, d, rfl, _⟩ := h
    rfl
  · obtain ⟨t, ⟨c, wd, k⟩, rfl, hd, q⟩ := h
    have hd : H t = some (.tup [.int c, .str wd, kV k]) := hd
    refine ⟨_, (pss_one (ps_ret (pe_cmpR op_ne (pe_ix (r := rIxT K) ix_tup (pv 0) pe_int (fun _ _ => rfl)) pe_str (nomark _)))), ?_⟩
    try simp (maxSteps := 1000000) only [tSeq, tIfS, tTest, tOp, tUn, tCB, tCons, tNil, tVar, tC, rI0, rI, rU, rEq, rNe, tRet, tRetN, tAsg, gName, gSub, tBM, tBM0, tNext, tB, tNot, tAnd, tOr, tIf, tCall, tDrop, tBreak, tCont, L2.start, tDGet, sDPut, tTup, tLst, tDNewK, tRevL, rCat, rAppend, rPop, rSetL, tAndV, tOrV, tNotV, tSl, tPart, tNoPart, tM1, gTup, gCons, gNil, cxK, cxnK, List.map_cons, List.map_nil, List.length_cons, List.length_nil, List.replicate, List.cons_append, List.nil_append, List.append_nil, List.set_cons_zero, List.set_cons_succ, List.getElem?_cons_zero, List.getElem?_cons_succ, Option.some.injEq, V.ref.injEq, V.int.injEq, V.str.injEq, V.bl.injEq, V.ty.injEq, exists_eq_left', exists_eq_left, exists_and_left, List.cons.injEq, and_true, true_and, sc_ii, sc_ss, sc_bb, sc_ni, sc_in, sc_is, sc_si, sc_nn, decide_true, decide_false, reduceCtorEq, Bool.false_eq_true, if_true, if_false, ite_true, ite_false, exists_const, eq_self, false_and, and_false, or_false, false_or, exists_false, Evl.rLenS, rSum, wipe, tYes, exists_eq, exists_eq', rIxL, rIxT, rIxS, exists_and_right, gt_iff_lt, not_true_eq_false, not_false_eq_true, Bool.not_true, Bool.not_false, decide_eq_true_eq, Nat.reduceSub, Nat.reduceAdd, List.append_assoc, tChain, tDIn, tDNotIn, sDDel, tAug, ipI, rInt1_int, rInt1_bl]
    refine ⟨_, sq_t hd, _, rfl, rfl, ?_⟩
    have e : (!decide (V.str wd = V.str (Str.ofString "step"))) = visB (c, wd, k) := by
      unfold visB
      by_cases h : wd = (Str.ofString "step")
      · rw [decide_eq_true (congrArg V.str h)]
        exact (decide_eq_false (fun z => z h)).symm
      · rw [decide_eq_false fun z => h (V.str.inj z)]
        exact (decide_eq_true h).symm
    rw [e]
    exact q
end
end My

set_option Elab.async false
set_option linter.all false
set_option maxRecDepth 100000
set_option maxHeartbeats 4000000
namespace My
open PySem L2 NdefX
abbrev s_TooLarge_init : Stmt := mtop 3 0
theorem sc_TooLarge_init : NScope ["self", "bound", "__class__"] ["self", "bound"] ["__class__"] (defScope s_TooLarge_init) := nscope_by (by decide +kernel)
theorem ok_TooLarge_init {P : Program} {w : World} {K : PySem.W.Frag} {mg : Str → Option Value} {base : Heap} {CX : CXT} {f cc cda C : Addr} {fd : FuncData} (F : FunX K "__init__" "TooLarge.__init__" s_TooLarge_init f fd cc cda C) (T : ErrC K C) (G : CodeF K P cda) (hsup : mg "super" = none) (n1 : PySem.W.findIn K (.ref C) "bound" = some none) {Pf : V → Prop} (hPf : ∀ v, Pf v → ∃ i : Int, v = .int i ∧ i.natAbs.log2 < 1920) :
    FnOk P w K mg base CX 1 f fd ["self", "bound"] (spErr1 C "bound" Pf) := by
  have F0 := F
  obtain ⟨oc, od, kV, doc, pm, an, ct, osl, hfd, lk, hcd⟩ := F0.ex
  obtain ⟨cl, cld, csl, hcc⟩ := F0.cell
  refine F.ok sc_TooLarge_init (fun vs H Q E h => ?_) (fun A outer s H vs Q E hr h => ?_)
  · obtain ⟨a, v, rfl, _⟩ := h
    rfl
  · obtain ⟨a, v, rfl, hp, ha, q⟩ := h
    obtain ⟨i, rfl, il⟩ := hPf v hp
    have tl := PyProof.Rows.int_text_len_1921 il
    refine ⟨_, psat_cons (psat_sup T G lk (by rw [hfd]; rfl) hcc hsup rfl rfl rfl rfl rfl rfl rfl (pa_cons (pe_joined (.cons pe_str (.cons (pe_fmt (pv 1)) .nil))) pa_nil) rfl rfl rfl rfl rfl) (pss_one (ps_ost (pv 0) (pv 1))), ?_⟩
    try simp (maxSteps := 1000000) only [tSeq, tIfS, tTest, tOp, tUn, tCB, tCons, tNil, tVar, tC, rI0, rI, rU, rEq, rNe, tRet, tRetN, tAsg, gName, gSub, tBM, tBM0, tNext, tB, tNot, tAnd, tOr, tIf, tCall, tDrop, tBreak, tCont, L2.start, tDGet, sDPut, tTup, tLst, tDNewK, tRevL, rCat, rAppend, rPop, rSetL, tAndV, tOrV, tNotV, tSl, tPart, tNoPart, tM1, gTup, gCons, gNil, cxK, cxnK, List.map_cons, List.map_nil, List.length_cons, List.length_nil, List.replicate, List.cons_append, List.nil_append, List.append_nil, List.set_cons_zero, List.set_cons_succ, List.getElem?_cons_zero, List.getElem?_cons_succ, Option.some.injEq, V.ref.injEq, V.int.injEq, V.str.injEq, V.bl.injEq, V.ty.injEq, exists_eq_left', exists_eq_left, exists_and_left, List.cons.injEq, and_true, true_and, sc_ii, sc_ss, sc_bb, sc_ni, sc_in, sc_is, sc_si, sc_nn, decide_true, decide_false, reduceCtorEq, Bool.false_eq_true, if_true, if_false, ite_true, ite_false, exists_const, eq_self, false_and, and_false, or_false, false_or, exists_false, Evl.rLenS, rSum, wipe, tYes, exists_eq, exists_eq', rIxL, rIxT, rIxS, exists_and_right, gt_iff_lt, not_true_eq_false, not_false_eq_true, Bool.not_true, Bool.not_false, decide_eq_true_eq, Nat.reduceSub, Nat.reduceAdd, List.append_assoc, tChain, tDIn, tDNotIn, sDDel, tAug, ipI, rInt1_int, rInt1_bl, startF, tSupI, tJs, tFmt, tOst]
    have z0 : Str.empty.length = 0 := rfl
    have s0 : (Str.ofString "not within the bound of ").length = 24 := by decide +kernel
    refine ⟨ha, small ?_, il, small ?_, by decide, ha, C, T.ox, n1, .inl ⟨ha, q⟩⟩
    all_goals (simp only [len_app, z0, s0]; omega)
abbrev s_BadWeb_init : Stmt := mtop 4 0
theorem sc_BadWeb_init : NScope ["self", "at", "__class__"] ["self", "at"] ["__class__"] (defScope s_BadWeb_init) := nscope_by (by decide +kernel)
theorem ok_BadWeb_init {P : Program} {w : World} {K : PySem.W.Frag} {mg : Str → Option Value} {base : Heap} {CX : CXT} {f cc cda C : Addr} {fd : FuncData} (F : FunX K "__init__" "BadWeb.__init__" s_BadWeb_init f fd cc cda C) (T : ErrC K C) (G : CodeF K P cda) (hsup : mg "super" = none) (n1 : PySem.W.findIn K (.ref C) "at" = some none) {Pf : V → Prop} (hPf : ∀ v, Pf v → ∃ i : Int, v = .int i ∧ i.natAbs.log2 < 1920) :
    FnOk P w K mg base CX 1 f fd ["self", "at"] (spErr1 C "at" Pf) := by
  have F0 := F
  obtain ⟨oc, od, kV, doc, pm, an, ct, osl, hfd, lk, hcd⟩ := F0.ex
  obtain ⟨cl, cld, csl, hcc⟩ := F0.cell
  refine F.ok sc_BadWeb_init (fun vs H Q E h => ?_) (fun A outer s H vs Q E hr h => ?_)
  · obtain ⟨a, v, rfl, _⟩ := h
    rfl
  · obtain ⟨a, v, rfl, hp, ha, q⟩ := h
    obtain ⟨i, rfl, il⟩ := hPf v hp
    have tl := PyProof.Rows.int_text_len_1921 il
    refine ⟨_, psat_cons (psat_sup T G lk (by rw [hfd]; rfl) hcc hsup rfl rfl rfl rfl rfl rfl rfl (pa_cons (pe_joined (.cons pe_str (.cons (pe_fmt (pv 1)) (.cons pe_str .nil)))) pa_nil) rfl rfl rfl rfl rfl) (pss_one (ps_ost (pv 0) (pv 1))), ?_⟩
    try simp (maxSteps := 1000000) only [tSeq, tIfS, tTest, tOp, tUn, tCB, tCons, tNil, tVar, tC, rI0, rI, rU, rEq, rNe, tRet, tRetN, tAsg, gName, gSub, tBM, tBM0, tNext, tB, tNot, tAnd, tOr, tIf, tCall, tDrop, tBreak, tCont, L2.start, tDGet, sDPut, tTup, tLst, tDNewK, tRevL, rCat, rAppend, rPop, rSetL, tAndV, tOrV, tNotV, tSl, tPart, tNoPart, tM1, gTup, gCons, gNil, cxK, cxnK, List.map_cons, List.map_nil, List.length_cons, List.length_nil, List.replicate, List.cons_append, List.nil_append, List.append_nil, List.set_cons_zero, List.set_cons_succ, List.getElem?_cons_zero, List.getElem?_cons_succ, Option.some.injEq, V.ref.injEq, V.int.injEq, V.str.injEq, V.bl.injEq, V.ty.injEq, exists_eq_left', exists_eq_left, exists_and_left, List.cons.injEq, and_true, true_and, sc_ii, sc_ss, sc_bb, sc_ni, sc_in, sc_is, sc_si, sc_nn, decide_true, decide_false, reduceCtorEq, Bool.false_eq_true, if_true, if_false, ite_true, ite_false, exists_const, eq_self, false_and, and_false, or_false, false_or, exists_false, Evl.rLenS, rSum, wipe, tYes, exists_eq, exists_eq', rIxL, rIxT, rIxS, exists_and_right, gt_iff_lt, not_true_eq_false, not_false_eq_true, Bool.not_true, Bool.not_false, decide_eq_true_eq, Nat.reduceSub, Nat.reduceAdd, List.append_assoc, tChain, tDIn, tDNotIn, sDDel, tAug, ipI, rInt1_int, rInt1_bl, startF, tSupI, tJs, tFmt, tOst]
    have z0 : Str.empty.length = 0 := rfl
    have s0 : (Str.ofString "the moves of standing ").length = 22 := by decide +kernel
    have s2 : (Str.ofString " are wrong").length = 10 := by decide +kernel
    refine ⟨ha, small ?_, il, small ?_, small ?_, by decide, ha, C, T.ox, n1, .inl ⟨ha, q⟩⟩
    all_goals (simp only [len_app, z0, s0, s2]; omega)
abbrev s_NoStanding_init : Stmt := mtop 5 0
theorem sc_NoStanding_init : NScope ["self", "at", "__class__"] ["self", "at"] ["__class__"] (defScope s_NoStanding_init) := nscope_by (by decide +kernel)
theorem ok_NoStanding_init {P : Program} {w : World} {K : PySem.W.Frag} {mg : Str → Option Value} {base : Heap} {CX : CXT} {f cc cda C : Addr} {fd : FuncData} (F : FunX K "__init__" "NoStanding.__init__" s_NoStanding_init f fd cc cda C) (T : ErrC K C) (G : CodeF K P cda) (hsup : mg "super" = none) (n1 : PySem.W.findIn K (.ref C) "at" = some none) {Pf : V → Prop} :
    FnOk P w K mg base CX 1 f fd ["self", "at"] (spErr1 C "at" Pf) := by
  have F0 := F
  obtain ⟨oc, od, kV, doc, pm, an, ct, osl, hfd, lk, hcd⟩ := F0.ex
  obtain ⟨cl, cld, csl, hcc⟩ := F0.cell
  refine F.ok sc_NoStanding_init (fun vs H Q E h => ?_) (fun A outer s H vs Q E hr h => ?_)
  · obtain ⟨a, v, rfl, _⟩ := h
    rfl
  · obtain ⟨a, v, rfl, hp, ha, q⟩ := h
    refine ⟨_, psat_cons (psat_sup T G lk (by rw [hfd]; rfl) hcc hsup rfl rfl rfl rfl rfl rfl rfl (pa_cons pe_str pa_nil) rfl rfl rfl rfl rfl) (pss_one (ps_ost (pv 0) (pv 1))), ?_⟩
    try simp (maxSteps := 1000000) only [tSeq, tIfS, tTest, tOp, tUn, tCB, tCons, tNil, tVar, tC, rI0, rI, rU, rEq, rNe, tRet, tRetN, tAsg, gName, gSub, tBM, tBM0, tNext, tB, tNot, tAnd, tOr, tIf, tCall, tDrop, tBreak, tCont, L2.start, tDGet, sDPut, tTup, tLst, tDNewK, tRevL, rCat, rAppend, rPop, rSetL, tAndV, tOrV, tNotV, tSl, tPart, tNoPart, tM1, gTup, gCons, gNil, cxK, cxnK, List.map_cons, List.map_nil, List.length_cons, List.length_nil, List.replicate, List.cons_append, List.nil_append, List.append_nil, List.set_cons_zero, List.set_cons_succ, List.getElem?_cons_zero, List.getElem?_cons_succ, Option.some.injEq, V.ref.injEq, V.int.injEq, V.str.injEq, V.bl.injEq, V.ty.injEq, exists_eq_left', exists_eq_left, exists_and_left, List.cons.injEq, and_true, true_and, sc_ii, sc_ss, sc_bb, sc_ni, sc_in, sc_is, sc_si, sc_nn, decide_true, decide_false, reduceCtorEq, Bool.false_eq_true, if_true, if_false, ite_true, ite_false, exists_const, eq_self, false_and, and_false, or_false, false_or, exists_false, Evl.rLenS, rSum, wipe, tYes, exists_eq, exists_eq', rIxL, rIxT, rIxS, exists_and_right, gt_iff_lt, not_true_eq_false, not_false_eq_true, Bool.not_true, Bool.not_false, decide_eq_true_eq, Nat.reduceSub, Nat.reduceAdd, List.append_assoc, tChain, tDIn, tDNotIn, sDDel, tAug, ipI, rInt1_int, rInt1_bl, startF, tSupI, tOst]
    exact ⟨ha, by decide, ha, C, T.ox, n1, .inl ⟨ha, q⟩⟩
abbrev s_are_moves : Stmt := top 16
theorem sc_are_moves : FnScope ["row", "many", "deeds", "move", "deed", "goal"] ["row", "many"] (defScope s_are_moves) := ⟨rfl, rfl, rfl, by decide +kernel, rfl, by decide +kernel, by decide +kernel⟩
/-- at v the tuple of a move -/
def TM (H : Hp) (v : V) (m : Mv) : Prop := ∃ a t, v = .ref a ∧ H a = some (.tup [.ref t, .int m.2]) ∧ TD H t m.1
theorem TM.tp {H H' : Hp} {v : V} {m : Mv} (h : TM H v m) (t : Tp H H') : TM H' v m := by
  obtain ⟨a, b, e, h1, h2⟩ := h
  exact ⟨a, b, e, t _ _ h1, t _ _ h2⟩
def dK (d : Dd) : List Key := [.inl d.1, .inr d.2.1, d.2.2]
theorem TD.key {H : Hp} {t : Addr} {d : Dd} (h : TD H t d) : H t = some (.tup ((dK d).map kV)) := h
theorem dK_inj {a b : Dd} (h : dK a = dK b) : a = b := by
  obtain ⟨a1, a2, a3⟩ := a
  obtain ⟨b1, b2, b3⟩ := b
  unfold dK at h
  injection h with h1 h
  injection h with h2 h
  injection h with h3 h
  injection h1 with h1
  injection h2 with h2
  subst h1; subst h2; subst h3; rfl
structure GoodRw (n : Nat) (ms : List Mv) : Prop where
  deed : ∀ m ∈ ms, GoodDd m.1
  goal : ∀ m ∈ ms, 0 ≤ m.2 ∧ m.2 < n
  uniq : (ms.map (·.1)).Nodup
  len : ms.length ≤ 100
theorem forL_src {K : PySem.W.Frag} {te : TE} {g : TG} {tb : TS} {D : Ends} {σ : L2.St} {H : Hp} (h : te σ H fun v H1 => tFor (iList K (tC v)) g tb D σ H1) : tFor (iList K te) g tb D σ H := h
theorem forLC {K : PySem.W.Frag} {g : TG} {tb : TS} {D : Ends} {σ : L2.St} {H : Hp} {a : Addr} {xs : List V} (Pv : Nat → L2.St → Hp → Prop) (hS : SqL K H a xs) (h0 : Pv 0 σ H) (hl : ∀ j σ H, j ≤ xs.length → Pv j σ H → SqL K H a xs)
    (hs : ∀ j x σ H, xs[j]? = some x → Pv j σ H → g x σ H fun σ2 H2 => tb { D with nx := Pv (j + 1), ct := Pv (j + 1), bk := D.nx } σ2 H2) (hd : ∀ σ H, Pv xs.length σ H → D.nx σ H) : tFor (iList K (tC (.ref a))) g tb D σ H :=
  ⟨a, rfl, ⟨xs, hS⟩, for_list Pv h0 hl hs hd⟩
theorem valV_none {κ : Type} [DecidableEq κ] {kvs : List (κ × V)} {k : κ} (h : k ∉ kvs.map (·.1)) : valV kvs k = none := by
  cases e : valV kvs k with
  | none => rfl
  | some v => exact absurd (valV_in e) h
section
variable {P : Program} {w : World} {K : PySem.W.Frag} {mg : Str → Option Value} {base : Heap} {tL t1 t2 : Tok}
def spMoves : Sp := fun vs H Q _ => ∃ (r : Addr) (us : List V) (n : Nat) (ms : List Mv), vs = [.ref r, .int (n : Nat)] ∧ H r = some (.lst us) ∧ Rw (TM H) us ms ∧ GoodRw n ms ∧ ∀ H', Kp [] H H' → Q (.bl true) H'
theorem ok_are_moves {f : Addr} {fd : FuncData} (D : Df K mg "are_moves" s_are_moves ["row", "many"] f fd) (T : Bt mg tL t1 t2) {fe : Addr} {fde : FuncData} (D_is_deed : Df K mg "is_deed" s_is_deed ["value"] fe fde) (G_is_deed : FnOk P w K mg base CX0 3 fe fde ["value"] spDeed)
    {fb : Addr} {fdb : FuncData} (D_is_below : Df K mg "is_below" s_is_below ["value", "bound"] fb fdb) (G_is_below : FnOk P w K mg base CX0 1 fb fdb ["value", "bound"] spBelow) :
    FnOk P w K mg base CX0 4 f fd ["row", "many"] spMoves := by
  refine D.F.ok sc_are_moves (fun vs H Q E h => ?_) (fun cdv A outer s H vs Q E hr h => ?_)
  · obtain ⟨r, us, n, ms, rfl, _⟩ := h
    rfl
  · obtain ⟨r, us, n, ms, rfl, hr', hus, hg, q⟩ := h
    have hu := hu_of hr
    have lm : us.length = ms.length := hus.len
    refine ⟨_, (pss_cons (ps_set (i := 2) sc_are_moves.nd rfl (Or.inl rfl) pe_dnewT)
      (pss_cons (ps_for PassesOwn.never rfl (pi_list (pv 0)) (pg_name (i := 3) sc_are_moves.nd rfl (Or.inl rfl)) (pss_cons (ps_if (PW.pt (pw_or (pt_not (pt_val (pe_callB (id := "isinstance") (r := rIsi K) call_isi (by rfl) T.b_isinstance (by decide +kernel) (pa_cons (pv 3) (pa_cons (pe_bltn (v := .ty "tuple") (by rfl) T.b_tuple (by decide +kernel) rfl) pa_nil))))) (pw_or1 (pt_cmpR op_ne (pe_callB (id := "len") (r := Evl.rLenS K) call_len_seq (by rfl) T.b_len PySem.boot_len (pa_cons (pv 3) pa_nil)) pe_int (nomark _))))) (pss_one (ps_ret pe_bl)) pss_nil)
      (pss_cons (ps_asg (pv 3) (pg_tup (n := 2) (by rfl) (pgs_cons (pg_name (i := 4) sc_are_moves.nd rfl (Or.inl rfl)) (pgs_cons (pg_name (i := 5) sc_are_moves.nd rfl (Or.inl rfl)) pgs_nil))))
      (pss_cons (ps_if (PW.pt (pw_or (pt_not (pt_val (pe_call G_is_deed (hr.mono (by decide)) rfl D_is_deed.g D_is_deed.F.kp D_is_deed.b .nil pass0 (pa_cons (pv 4) pa_nil)))) (pw_or (pt_not (pt_val (pe_call G_is_below (hr.mono (by decide)) rfl D_is_below.g D_is_below.F.kp D_is_below.b .nil pass0 (pa_cons (pv 5) (pa_cons (pv 1) pa_nil))))) (pw_or1 (pt_cmp (pc_din hu (pv 4) (pv 2))))))) (pss_one (ps_ret pe_bl)) pss_nil)
      (pss_one (ps_dput hu (pv 2) (pv 4) pe_bl rfl))))))
      (pss_one (ps_ret pe_bl)))), ?_⟩
    try simp (maxSteps := 1000000) only [tSeq, tIfS, tTest, tOp, tUn, tCB, tCons, tNil, tVar, tC, rI0, rI, rU, rEq, rNe, tRet, tRetN, tAsg, gName, gSub, tBM, tBM0, tNext, tB, tNot, tAnd, tOr, tIf, tCall, tDrop, tBreak, tCont, L2.start, tDGet, sDPut, tTup, tLst, tDNewK, tRevL, rCat, rAppend, rPop, rSetL, tAndV, tOrV, tNotV, tSl, tPart, tNoPart, tM1, gTup, gCons, gNil, cxK, cxnK, List.map_cons, List.map_nil, List.length_cons, List.length_nil, List.replicate, List.cons_append, List.nil_append, List.append_nil, List.set_cons_zero, List.set_cons_succ, List.getElem?_cons_zero, List.getElem?_cons_succ, Option.some.injEq, V.ref.injEq, V.int.injEq, V.str.injEq, V.bl.injEq, V.ty.injEq, exists_eq_left', exists_eq_left, exists_and_left, List.cons.injEq, and_true, true_and, sc_ii, sc_ss, sc_bb, sc_ni, sc_in, sc_is, sc_si, sc_nn, decide_true, decide_false, reduceCtorEq, Bool.false_eq_true, if_true, if_false, ite_true, ite_false, exists_const, eq_self, false_and, and_false, or_false, false_or, exists_false, Evl.rLenS, rSum, wipe, tYes, exists_eq, exists_eq', rIxL, rIxT, rIxS, exists_and_right, gt_iff_lt, not_true_eq_false, not_false_eq_true, Bool.not_true, Bool.not_false, decide_eq_true_eq, Nat.reduceSub, Nat.reduceAdd, List.append_assoc, tChain, tDIn, tDNotIn, sDDel, tAug, ipI, rInt1_int, rInt1_bl]
    intro D nD
    refine forL_src ?_
    try simp (maxSteps := 1000000) only [tSeq, tIfS, tTest, tOp, tUn, tCB, tCons, tNil, tVar, tC, rI0, rI, rU, rEq, rNe, tRet, tRetN, tAsg, gName, gSub, tBM, tBM0, tNext, tB, tNot, tAnd, tOr, tIf, tCall, tDrop, tBreak, tCont, L2.start, tDGet, sDPut, tTup, tLst, tDNewK, tRevL, rCat, rAppend, rPop, rSetL, tAndV, tOrV, tNotV, tSl, tPart, tNoPart, tM1, gTup, gCons, gNil, cxK, cxnK, List.map_cons, List.map_nil, List.length_cons, List.length_nil, List.replicate, List.cons_append, List.nil_append, List.append_nil, List.set_cons_zero, List.set_cons_succ, List.getElem?_cons_zero, List.getElem?_cons_succ, Option.some.injEq, V.ref.injEq, V.int.injEq, V.str.injEq, V.bl.injEq, V.ty.injEq, exists_eq_left', exists_eq_left, exists_and_left, List.cons.injEq, and_true, true_and, sc_ii, sc_ss, sc_bb, sc_ni, sc_in, sc_is, sc_si, sc_nn, decide_true, decide_false, reduceCtorEq, Bool.false_eq_true, if_true, if_false, ite_true, ite_false, exists_const, eq_self, false_and, and_false, or_false, false_or, exists_false, Evl.rLenS, rSum, wipe, tYes, exists_eq, exists_eq', rIxL, rIxT, rIxS, exists_and_right, gt_iff_lt, not_true_eq_false, not_false_eq_true, Bool.not_true, Bool.not_false, decide_eq_true_eq, Nat.reduceSub, Nat.reduceAdd, List.append_assoc, tChain, tDIn, tDNotIn, sDDel, tAug, ipI, rInt1_int, rInt1_bl]
    refine forLC (fun i σ H' => ∃ (kvs : List (List Key × V)) (x y z : Option V), H' D = some (.dT kvs) ∧ kvs.map (·.1) = (ms.take i).map (fun m => dK m.1) ∧ Kp [] H H' ∧ σ = [some (.ref r), some (.int (n : Nat)), some (.ref D), x, y, z])
      (sq_l ((Kp.new nD) _ _ not0 hr')) ⟨[], none, none, none, upd_same, rfl, Kp.new nD, rfl⟩ (fun j σ H' _ h => by obtain ⟨_, _, _, _, _, _, k, _⟩ := h; exact sq_l (k _ _ not0 hr')) (fun i v σ H' hv h => ?_) (fun σ H' h => ?_)
    · obtain ⟨kvs, x, y, z, hD, hk, kp, rfl⟩ := h
      have li : i < ms.length := by
        have := (List.getElem?_eq_some_iff.mp hv).1
        omega
      have em : ms[i]? = some ms[i] := List.getElem?_eq_getElem li
      generalize ms[i] = m at em
      obtain ⟨u, eu, hm⟩ := hus.at em
      obtain rfl : v = u := Option.some.inj (hv.symm.trans eu)
      obtain ⟨a, t, rfl, ha, ht⟩ := hm.tp kp.tps
      have mem : m ∈ ms := List.mem_of_getElem? em
      have gd := hg.deed m mem
      obtain ⟨g0, gn⟩ := hg.goal m mem
      try simp (maxSteps := 1000000) only [tSeq, tIfS, tTest, tOp, tUn, tCB, tCons, tNil, tVar, tC, rI0, rI, rU, rEq, rNe, tRet, tRetN, tAsg, gName, gSub, tBM, tBM0, tNext, tB, tNot, tAnd, tOr, tIf, tCall, tDrop, tBreak, tCont, L2.start, tDGet, sDPut, tTup, tLst, tDNewK, tRevL, rCat, rAppend, rPop, rSetL, tAndV, tOrV, tNotV, tSl, tPart, tNoPart, tM1, gTup, gCons, gNil, cxK, cxnK, List.map_cons, List.map_nil, List.length_cons, List.length_nil, List.replicate, List.cons_append, List.nil_append, List.append_nil, List.set_cons_zero, List.set_cons_succ, List.getElem?_cons_zero, List.getElem?_cons_succ, Option.some.injEq, V.ref.injEq, V.int.injEq, V.str.injEq, V.bl.injEq, V.ty.injEq, exists_eq_left', exists_eq_left, exists_and_left, List.cons.injEq, and_true, true_and, sc_ii, sc_ss, sc_bb, sc_ni, sc_in, sc_is, sc_si, sc_nn, decide_true, decide_false, reduceCtorEq, Bool.false_eq_true, if_true, if_false, ite_true, ite_false, exists_const, eq_self, false_and, and_false, or_false, false_or, exists_false, Evl.rLenS, rSum, wipe, tYes, exists_eq, exists_eq', rIxL, rIxT, rIxS, exists_and_right, gt_iff_lt, not_true_eq_false, not_false_eq_true, Bool.not_true, Bool.not_false, decide_eq_true_eq, Nat.reduceSub, Nat.reduceAdd, List.append_assoc, tChain, tDIn, tDNotIn, sDDel, tAug, ipI, rInt1_int, rInt1_bl]
      refine isi_Dtup (.tup ha (.cons ht.dq (.cons (.int _) .nil))) ⟨true, rfl, ?_⟩
      rw [if_neg (by decide)]
      refine ⟨_, .inr (sq_t ha), ?_⟩
      rw [if_neg (show ¬ (!decide ((([V.ref t, V.int m.2].length : Nat) : Int) = 2)) = true by rw [show [V.ref t, V.int m.2].length = 2 from rfl]; decide)]
      refine ⟨_, sq_t ha, rfl, _, _, rfl, _, _, rfl, rfl, t, m.1, rfl, ht, gd, fun H2 k2 => ⟨true, rfl, ?_⟩⟩
      rw [if_neg (by decide)]
      have ht2 : TD H2 t m.1 := k2.tps _ _ ht
      have hD2 := k2 _ _ not0 hD
      refine ⟨_, .int m.2, (n : Nat), rfl, .int _, true, ?_, ?_⟩
      · rw [show belowD (n : Nat) (.int m.2) = true from below_iff.mpr ⟨m.2, rfl, g0, gn⟩]
      rw [if_neg (by decide)]
      have nin : dK m.1 ∉ kvs.map (·.1) := by
        rw [hk]
        intro hh
        obtain ⟨m', hm', e⟩ := List.mem_map.mp hh
        have e := dK_inj e
        obtain ⟨j, hj, ej⟩ := List.mem_iff_getElem.mp hm'
        rw [List.length_take] at hj
        rw [List.getElem_take] at ej
        have nd := List.nodup_iff_pairwise_ne.mp hg.uniq
        have := List.pairwise_iff_getElem.mp nd j i (by rw [List.length_map]; omega) (by rw [List.length_map]; omega) (by omega)
        rw [List.getElem_map, List.getElem_map, ej, (List.getElem?_eq_some_iff.mp em).2] at this
        exact this e
      have vn := valV_none nin
      refine ⟨_, .t hD2 ht2.key, ?_⟩
      rw [vn]
      refine ⟨_, .t hD2 ht2.key ?_, _, upd_same, ?_, (kp.trans k2).wr nD⟩
      · have := congrArg List.length hk
        rw [List.length_map, List.length_map, List.length_take] at this
        have := hg.len
        rw [sizeLine_eq]; omega
      · rw [putK_new _ vn, List.map_append, hk, take_snoc em, List.map_append]; rfl
    · obtain ⟨_, _, _, _, _, _, k, rfl⟩ := h
      try simp (maxSteps := 1000000) only [tSeq, tIfS, tTest, tOp, tUn, tCB, tCons, tNil, tVar, tC, rI0, rI, rU, rEq, rNe, tRet, tRetN, tAsg, gName, gSub, tBM, tBM0, tNext, tB, tNot, tAnd, tOr, tIf, tCall, tDrop, tBreak, tCont, L2.start, tDGet, sDPut, tTup, tLst, tDNewK, tRevL, rCat, rAppend, rPop, rSetL, tAndV, tOrV, tNotV, tSl, tPart, tNoPart, tM1, gTup, gCons, gNil, cxK, cxnK, List.map_cons, List.map_nil, List.length_cons, List.length_nil, List.replicate, List.cons_append, List.nil_append, List.append_nil, List.set_cons_zero, List.set_cons_succ, List.getElem?_cons_zero, List.getElem?_cons_succ, Option.some.injEq, V.ref.injEq, V.int.injEq, V.str.injEq, V.bl.injEq, V.ty.injEq, exists_eq_left', exists_eq_left, exists_and_left, List.cons.injEq, and_true, true_and, sc_ii, sc_ss, sc_bb, sc_ni, sc_in, sc_is, sc_si, sc_nn, decide_true, decide_false, reduceCtorEq, Bool.false_eq_true, if_true, if_false, ite_true, ite_false, exists_const, eq_self, false_and, and_false, or_false, false_or, exists_false, Evl.rLenS, rSum, wipe, tYes, exists_eq, exists_eq', rIxL, rIxT, rIxS, exists_and_right, gt_iff_lt, not_true_eq_false, not_false_eq_true, Bool.not_true, Bool.not_false, decide_eq_true_eq, Nat.reduceSub, Nat.reduceAdd, List.append_assoc, tChain, tDIn, tDNotIn, sDDel, tAug, ipI, rInt1_int, rInt1_bl]
      exact q _ k
end
end My

set_option Elab.async false
set_option linter.all false
set_option maxRecDepth 100000
set_option maxHeartbeats 4000000
namespace My
open PySem L2 NdefX
/-! ### deeds and moves of any data -/
def moveB (n : Int) : PyData → Bool
  | .tuple [d, g] => deedB d && belowD n g
  | _ => false
theorem deedB_iff {d : PyData} : deedB d = true ↔ ∃ x : Dd, d = ddD x ∧ GoodDd x := by
  constructor
  · intro h
    match d, h with
    | .tuple [c, w, x], h =>
      have h : (belowD 3 c && wordD x w) = true := h
      rw [Bool.and_eq_true] at h
      obtain ⟨i, rfl, i0, i3⟩ := below_iff.mp h.1
      have h2 := h.2
      cases w with
      | str w =>
        have h2 : (if w = ("call" : Str) then nameD x else (decide (w = ("return" : Str)) || decide (w = ("step" : Str))) && belowD 10 x) = true := h2
        by_cases hw : w = ("call" : Str)
        · rw [if_pos hw] at h2
          cases x with
          | str z => exact ⟨(i, w, .inr z), rfl, i0, i3, .inl ⟨hw, z, rfl, h2⟩⟩
          | _ => cases h2
        · rw [if_neg hw, Bool.and_eq_true, Bool.or_eq_true, decide_eq_true_eq, decide_eq_true_eq] at h2
          obtain ⟨j, rfl, j0, j9⟩ := below_iff.mp h2.2
          exact ⟨(i, w, .inl j), rfl, i0, i3, .inr ⟨h2.1, j, rfl, j0, j9⟩⟩
      | _ => cases h2
  · rintro ⟨⟨i, w, x⟩, rfl, i0, i3, h⟩
    show (belowD 3 (.int i) && wordD (kD x) (.str w)) = true
    rw [Bool.and_eq_true]
    refine ⟨below_iff.mpr ⟨i, rfl, i0, i3⟩, ?_⟩
    show (if w = ("call" : Str) then nameD (kD x) else (decide (w = ("return" : Str)) || decide (w = ("step" : Str))) && belowD 10 (kD x)) = true
    rcases h with ⟨hw, z, hx, hz⟩ | ⟨hw, j, hx, j0, j9⟩
    · have hw : w = ("call" : Str) := hw
      have hx : x = .inr z := hx
      rw [if_pos hw, hx]; exact hz
    · have hx : x = .inl j := hx
      have nc : ¬ w = ("call" : Str) := fun e => by
        rcases hw with h | h
        · have h : w = ("return" : Str) := h
          rw [h] at e
          exact absurd e (by decide +kernel)
        · have h : w = ("step" : Str) := h
          rw [h] at e
          exact absurd e (by decide +kernel)
      rw [if_neg nc, Bool.and_eq_true, Bool.or_eq_true, decide_eq_true_eq, decide_eq_true_eq, hx]
      exact ⟨hw, below_iff.mpr ⟨j, rfl, j0, j9⟩⟩
theorem inV_two {x a b : Str} : inV (.str x) [.str a, .str b] = (decide (x = a) || decide (x = b)) := by
  have e : ∀ c : Str, eqV (.str c) (.str x) = decide (x = c) := fun c => by
    show (c == x) = _
    by_cases h : x = c
    · subst h; rw [decide_eq_true rfl]; exact beq_self_eq_true _
    · rw [decide_eq_false h]; exact beq_eq_false_iff_ne.mpr fun z => h z.symm
  show (eqV (.str a) (.str x) || (eqV (.str b) (.str x) || false)) = _
  rw [e, e, Bool.or_false]
theorem dqLen {H : Hp} : ∀ {ds : List PyData} {vs : List V}, DqAll H vs ds → vs.length = ds.length
  | [], _, h => by cases h; rfl
  | d :: ds, _, h => by
    cases h with
    | cons _ t => rw [List.length_cons, List.length_cons, dqLen t]
section
variable {P : Program} {w : World} {K : PySem.W.Frag} {mg : Str → Option Value} {base : Heap} {tL t1 t2 : Tok}
theorem okd_is_deed {f : Addr} {fd : FuncData} (D : Df K mg "is_deed" s_is_deed ["value"] f fd) (T : Bt mg tL t1 t2) {fn : Addr} {fdn : FuncData} (D_is_name : Df K mg "is_name" s_is_name ["value"] fn fdn) (G_is_name : FnOk P w K mg base CX0 1 fn fdn ["value"] (spD (fun _ => True) nameD))
    {fb : Addr} {fdb : FuncData} (D_is_below : Df K mg "is_below" s_is_below ["value", "bound"] fb fdb) (G_is_below : FnOk P w K mg base CX0 1 fb fdb ["value", "bound"] spBelow) {fu : Addr} {fdu : FuncData} (D_is_number : Df K mg "is_number" s_is_number ["value"] fu fdu) (G_is_number : FnOk P w K mg base CX0 2 fu fdu ["value"] (spD (fun _ => True) (belowD 10))) :
    FnOk P w K mg base CX0 3 f fd ["value"] (spD (fun _ => True) deedB) := by
  refine D.F.ok sc_is_deed (fun vs H Q E h => ?_) (fun cdv A outer s H vs Q E hr h => ?_)
  · obtain ⟨v, d, rfl, _⟩ := h
    rfl
  · obtain ⟨v, d, rfl, hd, sz, _, q⟩ := h
    refine ⟨_, (pss_cons (ps_if (PW.pt (pw_or (pt_not (pt_val (pe_callB (id := "isinstance") (r := rIsi K) call_isi (by rfl) T.b_isinstance (by decide +kernel) (pa_cons (pv 0) (pa_cons (pe_bltn (v := .ty "tuple") (by rfl) T.b_tuple (by decide +kernel) rfl) pa_nil))))) (pw_or1 (pt_cmpR op_ne (pe_callB (id := "len") (r := Evl.rLenS K) call_len_seq (by rfl) T.b_len PySem.boot_len (pa_cons (pv 0) pa_nil)) pe_int (nomark _))))) (pss_one (ps_ret pe_bl)) pss_nil)
      (pss_cons (ps_asg (pv 0) (pg_tup (n := 3) (by rfl) (pgs_cons (pg_name (i := 1) sc_is_deed.nd rfl (Or.inl rfl)) (pgs_cons (pg_name (i := 2) sc_is_deed.nd rfl (Or.inl rfl)) (pgs_cons (pg_name (i := 3) sc_is_deed.nd rfl (Or.inl rfl)) pgs_nil)))))
      (pss_cons (ps_if (PW.pt (pw_or (pt_not (pt_val (pe_call G_is_below (hr.mono (by decide)) rfl D_is_below.g D_is_below.F.kp D_is_below.b .nil pass0 (pa_cons (pv 1) (pa_cons pe_int pa_nil))))) (pw_or1 (pt_not (pt_val (pe_callB (id := "isinstance") (r := rIsi K) call_isi (by rfl) T.b_isinstance (by decide +kernel) (pa_cons (pv 2) (pa_cons (pe_bltn (v := .ty "str") (by rfl) T.b_str (by decide +kernel) rfl) pa_nil)))))))) (pss_one (ps_ret pe_bl)) pss_nil)
      (pss_cons (ps_if (pt_cmpR op_eq (pv 2) pe_str (nomark _)) (pss_one (ps_ret (pe_call G_is_name (hr.mono (by decide)) rfl D_is_name.g D_is_name.F.kp D_is_name.b .nil pass0 (pa_cons (pv 3) pa_nil)))) pss_nil)
      (pss_one (ps_ret (pe_and (pe_cmpR op_in_seq (pv 2) (pe_tup (pa_cons pe_str (pa_cons pe_str pa_nil))) (by rfl)) (pe_one (pe_call G_is_number (hr.mono (by decide)) rfl D_is_number.g D_is_number.F.kp D_is_number.b .nil pass0 (pa_cons (pv 3) pa_nil)))))))))), ?_⟩
    try simp (maxSteps := 1000000) only [tSeq, tIfS, tTest, tOp, tUn, tCB, tCons, tNil, tVar, tC, rI0, rI, rU, rEq, rNe, tRet, tRetN, tAsg, gName, gSub, tBM, tBM0, tNext, tB, tNot, tAnd, tOr, tIf, tCall, tDrop, tBreak, tCont, L2.start, tDGet, sDPut, tTup, tLst, tDNewK, tRevL, rCat, rAppend, rPop, rSetL, tAndV, tOrV, tNotV, tSl, tPart, tNoPart, tM1, gTup, gCons, gNil, cxK, cxnK, List.map_cons, List.map_nil, List.length_cons, List.length_nil, List.replicate, List.cons_append, List.nil_append, List.append_nil, List.set_cons_zero, List.set_cons_succ, List.getElem?_cons_zero, List.getElem?_cons_succ, Option.some.injEq, V.ref.injEq, V.int.injEq, V.str.injEq, V.bl.injEq, V.ty.injEq, exists_eq_left', exists_eq_left, exists_and_left, List.cons.injEq, and_true, true_and, sc_ii, sc_ss, sc_bb, sc_ni, sc_in, sc_is, sc_si, sc_nn, decide_true, decide_false, reduceCtorEq, Bool.false_eq_true, if_true, if_false, ite_true, ite_false, exists_const, eq_self, false_and, and_false, or_false, false_or, exists_false, Evl.rLenS, rSum, wipe, tYes, exists_eq, exists_eq', rIxL, rIxT, rIxS, exists_and_right, gt_iff_lt, not_true_eq_false, not_false_eq_true, Bool.not_true, Bool.not_false, decide_eq_true_eq, Nat.reduceSub, Nat.reduceAdd, List.append_assoc, tChain, tDIn, tDNotIn, sDDel, tAug, ipI, rInt1_int, rInt1_bl]
    refine isi_Dtup hd ?_
    cases hd with
    | @tup a xs ds e ha =>
      try simp (maxSteps := 1000000) only [tSeq, tIfS, tTest, tOp, tUn, tCB, tCons, tNil, tVar, tC, rI0, rI, rU, rEq, rNe, tRet, tRetN, tAsg, gName, gSub, tBM, tBM0, tNext, tB, tNot, tAnd, tOr, tIf, tCall, tDrop, tBreak, tCont, L2.start, tDGet, sDPut, tTup, tLst, tDNewK, tRevL, rCat, rAppend, rPop, rSetL, tAndV, tOrV, tNotV, tSl, tPart, tNoPart, tM1, gTup, gCons, gNil, cxK, cxnK, List.map_cons, List.map_nil, List.length_cons, List.length_nil, List.replicate, List.cons_append, List.nil_append, List.append_nil, List.set_cons_zero, List.set_cons_succ, List.getElem?_cons_zero, List.getElem?_cons_succ, Option.some.injEq, V.ref.injEq, V.int.injEq, V.str.injEq, V.bl.injEq, V.ty.injEq, exists_eq_left', exists_eq_left, exists_and_left, List.cons.injEq, and_true, true_and, sc_ii, sc_ss, sc_bb, sc_ni, sc_in, sc_is, sc_si, sc_nn, decide_true, decide_false, reduceCtorEq, Bool.false_eq_true, if_true, if_false, ite_true, ite_false, exists_const, eq_self, false_and, and_false, or_false, false_or, exists_false, Evl.rLenS, rSum, wipe, tYes, exists_eq, exists_eq', rIxL, rIxT, rIxS, exists_and_right, gt_iff_lt, not_true_eq_false, not_false_eq_true, Bool.not_true, Bool.not_false, decide_eq_true_eq, Nat.reduceSub, Nat.reduceAdd, List.append_assoc, tChain, tDIn, tDNotIn, sDDel, tAug, ipI, rInt1_int, rInt1_bl, isTupD]
      refine ⟨xs, .inr (sq_t e), ?_⟩
      have hl := dqLen ha
      rw [hl]
      by_cases h3 : ds.length = 3
      · obtain ⟨c, wd, x, rfl⟩ : ∃ a b c, ds = [a, b, c] := by
          match ds, h3 with
          | [a, b, c], _ => exact ⟨a, b, c, rfl⟩
        cases ha with
        | @cons v1 _ _ _ h1 ha =>
        cases ha with
        | @cons v2 _ _ _ h2 ha =>
        cases ha with
        | @cons v3 _ _ _ g3 ha =>
        cases ha
        rw [if_neg (show ¬ (!decide ((([c, wd, x].length : Nat) : Int) = 3)) = true by rw [show [c, wd, x].length = 3 from rfl]; decide)]
        have q' : ∀ H', Kp [] H H' → Q (.bl (belowD 3 c && wordD x wd)) H' := q
        have szx : szD x = true := szAll_mem sz x (by simp)
        have szw : szD wd = true := szAll_mem sz wd (by simp)
        refine ⟨_, sq_t e, rfl, _, _, rfl, _, _, rfl, _, _, rfl, rfl, v1, c, 3, rfl, h1, _, rfl, ?_⟩
        cases hc : belowD 3 c with
        | false =>
          rw [hc] at q'
          exact q' H (Kp.refl _ _)
        | true =>
          rw [hc] at q'
          rw [if_neg (by decide)]
          refine isi_Dstr h2 ⟨_, rfl, ?_⟩
          cases h2 with
          | str w0 =>
            have q2 : ∀ H', Kp [] H H' → Q (.bl (if w0 = ("call" : Str) then nameD x else (decide (w0 = ("return" : Str)) || decide (w0 = ("step" : Str))) && belowD 10 x)) H' := q'
            rw [if_neg (by simp [isStrD])]
            refine ⟨rfl, ?_⟩
            by_cases hw : w0 = ("call" : Str)
            · rw [if_pos (congrArg V.str hw)]
              rw [if_pos hw] at q2
              exact ⟨v3, x, rfl, g3, szx, True.intro, q2⟩
            · rw [if_neg (fun e => hw (V.str.inj e))]
              rw [if_neg hw] at q2
              refine ⟨by rw [sizeLine_eq]; decide, fun p np => ⟨p, [V.str (Str.ofString "return"), V.str (Str.ofString "step")], rfl, .inr (sq_t upd_same), rfl, rfl, _, rfl, ?_⟩⟩
              have kp := (Kp.new np : Kp [] H (upd H p (.tup [V.str (Str.ofString "return"), V.str (Str.ofString "step")])))
              have e2 : inV (V.str w0) [V.str (Str.ofString "return"), V.str (Str.ofString "step")] = (decide (w0 = ("return" : Str)) || decide (w0 = ("step" : Str))) := by
                rw [inV_two]
              rw [if_neg Bool.false_ne_true, e2]
              cases hc2 : (decide (w0 = ("return" : Str)) || decide (w0 = ("step" : Str))) with
              | false =>
                rw [hc2] at q2
                rw [if_neg Bool.false_ne_true]
                exact q2 _ kp
              | true =>
                rw [hc2] at q2
                rw [if_pos rfl]
                exact ⟨v3, x, rfl, Dq.kp kp g3, szx, True.intro, fun H' k => q2 H' (kp.trans k)⟩
          | _ => exact q' H (Kp.refl _ _)
      · have n3 : ¬ ((ds.length : Nat) : Int) = 3 := by omega
        rw [decide_eq_false n3]
        have ed : deedB (.tuple ds) = false := by
          match ds, h3 with
          | [], _ => rfl
          | [_], _ => rfl
          | [_, _], _ => rfl
          | [_, _, _], h => exact absurd rfl h
          | _ :: _ :: _ :: _ :: _, _ => rfl
        rw [ed] at q
        exact q H (Kp.refl _ _)
    | _ =>
      try simp (maxSteps := 1000000) only [tSeq, tIfS, tTest, tOp, tUn, tCB, tCons, tNil, tVar, tC, rI0, rI, rU, rEq, rNe, tRet, tRetN, tAsg, gName, gSub, tBM, tBM0, tNext, tB, tNot, tAnd, tOr, tIf, tCall, tDrop, tBreak, tCont, L2.start, tDGet, sDPut, tTup, tLst, tDNewK, tRevL, rCat, rAppend, rPop, rSetL, tAndV, tOrV, tNotV, tSl, tPart, tNoPart, tM1, gTup, gCons, gNil, cxK, cxnK, List.map_cons, List.map_nil, List.length_cons, List.length_nil, List.replicate, List.cons_append, List.nil_append, List.append_nil, List.set_cons_zero, List.set_cons_succ, List.getElem?_cons_zero, List.getElem?_cons_succ, Option.some.injEq, V.ref.injEq, V.int.injEq, V.str.injEq, V.bl.injEq, V.ty.injEq, exists_eq_left', exists_eq_left, exists_and_left, List.cons.injEq, and_true, true_and, sc_ii, sc_ss, sc_bb, sc_ni, sc_in, sc_is, sc_si, sc_nn, decide_true, decide_false, reduceCtorEq, Bool.false_eq_true, if_true, if_false, ite_true, ite_false, exists_const, eq_self, false_and, and_false, or_false, false_or, exists_false, Evl.rLenS, rSum, wipe, tYes, exists_eq, exists_eq', rIxL, rIxT, rIxS, exists_and_right, gt_iff_lt, not_true_eq_false, not_false_eq_true, Bool.not_true, Bool.not_false, decide_eq_true_eq, Nat.reduceSub, Nat.reduceAdd, List.append_assoc, tChain, tDIn, tDNotIn, sDDel, tAug, ipI, rInt1_int, rInt1_bl, isTupD]
      exact q H (Kp.refl _ _)
/-- a row of data is good: some good moves of which no two have one deed -/
def spMovesD : Sp := fun vs H Q _ => ∃ (r : Addr) (us : List V) (n : Nat) (ds : List PyData), vs = [.ref r, .int (n : Nat)] ∧ H r = some (.lst us) ∧ DqAll H us ds ∧ szAll ds = true ∧ ds.length ≤ 100 ∧
  (∀ ms, ds = ms.map mvD → GoodRw n ms → ∀ H', Kp [] H H' → Q (.bl true) H') ∧ ((∀ ms, ds = ms.map mvD → ¬ GoodRw n ms) → ∀ H', Kp [] H H' → Q (.bl false) H')
theorem kD_inj {a b : Key} (h : kD a = kD b) : a = b := by
  cases a <;> cases b <;> cases h <;> rfl
theorem ddD_inj {a b : Dd} (h : ddD a = ddD b) : a = b := by
  obtain ⟨a1, a2, a3⟩ := a
  obtain ⟨b1, b2, b3⟩ := b
  unfold ddD at h
  injection h with h
  injection h with h1 h
  injection h with h2 h
  injection h with h3 h
  injection h1 with h1
  injection h2 with h2
  have h3 := kD_inj h3
  have h1 : a1 = b1 := h1
  have h2 : a2 = b2 := h2
  have h3 : a3 = b3 := h3
  rw [h1, h2, h3]
theorem mvD_inj {a b : Mv} (h : mvD a = mvD b) : a = b := by
  obtain ⟨a1, a2⟩ := a
  obtain ⟨b1, b2⟩ := b
  unfold mvD at h
  injection h with h
  injection h with h1 h
  injection h with h2 h
  injection h2 with h2
  have h1 : a1 = b1 := ddD_inj h1
  have h2 : a2 = b2 := h2
  rw [h1, h2]
theorem maps_inj : ∀ {a b : List Mv}, a.map mvD = b.map mvD → a = b
  | [], [], _ => rfl
  | [], _ :: _, h => nomatch h
  | _ :: _, [], h => nomatch h
  | x :: a, y :: b, h => by
    rw [List.map_cons, List.map_cons] at h
    injection h with h1 h2
    rw [mvD_inj h1, maps_inj h2]
theorem not_beforeA {ms : List Mv} {i : Nat} {m : Mv} (nd : (ms.map (·.1)).Nodup) (em : ms[i]? = some m) : dK m.1 ∉ (ms.take i).map fun m => dK m.1 := by
  intro hh
  have li : i < ms.length := (List.getElem?_eq_some_iff.mp em).1
  obtain ⟨m', hm', e⟩ := List.mem_map.mp hh
  have e := dK_inj e
  obtain ⟨j, hj, ej⟩ := List.mem_iff_getElem.mp hm'
  rw [List.length_take] at hj
  rw [List.getElem_take] at ej
  have := List.pairwise_iff_getElem.mp (List.nodup_iff_pairwise_ne.mp nd) j i (by rw [List.length_map]; omega) (by rw [List.length_map]; omega) (by omega)
  rw [List.getElem_map, List.getElem_map, ej, (List.getElem?_eq_some_iff.mp em).2] at this
  exact this e
theorem row_fails {n : Nat} {ds : List PyData} {ms : List Mv} {i : Nat} {d : PyData} (et : ds.take i = ms.map mvD) (ed : ds[i]? = some d) (no : ∀ m : Mv, d = mvD m → GoodDd m.1 → 0 ≤ m.2 → m.2 < n → m.1 ∉ ms.map (·.1) → False) : ∀ ms', ds = ms'.map mvD → ¬ GoodRw n ms' := by
  rintro ms' rfl g
  rw [List.getElem?_map] at ed
  obtain ⟨m, em, rfl⟩ := Option.map_eq_some_iff.mp ed
  rw [← List.map_take] at et
  have e := maps_inj et
  have mm := List.mem_of_getElem? em
  refine no m rfl (g.deed m mm) (g.goal m mm).1 (g.goal m mm).2 fun z => ?_
  rw [← e] at z
  have := not_beforeA g.uniq em
  exact this (by
    obtain ⟨x, hx, ex⟩ := List.mem_map.mp z
    have ex : x.1 = m.1 := ex
    exact List.mem_map.mpr ⟨x, hx, by rw [ex]⟩)
theorem dqMv {H : Hp} {v : V} {m : Mv} (h : Dq H v (mvD m)) : TM H v m := by
  unfold mvD at h
  cases h with
  | tup e a =>
    cases a with
    | cons a1 a =>
      cases a with
      | cons a2 a =>
        cases a
        unfold ddD at a1
        cases a1 with
        | tup e1 b =>
          cases b with
          | cons b1 b =>
            cases b with
            | cons b2 b =>
              cases b with
              | cons b3 b =>
                cases b
                cases a2
                cases b1
                cases b2
                refine ⟨_, _, rfl, e, e1.trans ?_⟩
                have : ∀ (k : Key) (v : V), Dq H v (kD k) → v = kV k := fun k v h => by
                  cases k <;> cases h <;> rfl
                rw [this _ _ b3]
theorem okd_are_moves {f : Addr} {fd : FuncData} (D : Df K mg "are_moves" s_are_moves ["row", "many"] f fd) (T : Bt mg tL t1 t2) {fe : Addr} {fde : FuncData} (D_is_deed : Df K mg "is_deed" s_is_deed ["value"] fe fde) (G_is_deed : FnOk P w K mg base CX0 3 fe fde ["value"] (spD (fun _ => True) deedB))
    {fb : Addr} {fdb : FuncData} (D_is_below : Df K mg "is_below" s_is_below ["value", "bound"] fb fdb) (G_is_below : FnOk P w K mg base CX0 1 fb fdb ["value", "bound"] spBelow) :
    FnOk P w K mg base CX0 4 f fd ["row", "many"] spMovesD := by
  refine D.F.ok sc_are_moves (fun vs H Q E h => ?_) (fun cdv A outer s H vs Q E hr h => ?_)
  · obtain ⟨r, us, n, ms, rfl, _⟩ := h
    rfl
  · obtain ⟨r, us, n, ds, rfl, hr', hus, sz, dl, qG, qB⟩ := h
    have hu := hu_of hr
    have lm : us.length = ds.length := dqLen hus
    refine ⟨_, (pss_cons (ps_set (i := 2) sc_are_moves.nd rfl (Or.inl rfl) pe_dnewT)
      (pss_cons (ps_for PassesOwn.never rfl (pi_list (pv 0)) (pg_name (i := 3) sc_are_moves.nd rfl (Or.inl rfl)) (pss_cons (ps_if (PW.pt (pw_or (pt_not (pt_val (pe_callB (id := "isinstance") (r := rIsi K) call_isi (by rfl) T.b_isinstance (by decide +kernel) (pa_cons (pv 3) (pa_cons (pe_bltn (v := .ty "tuple") (by rfl) T.b_tuple (by decide +kernel) rfl) pa_nil))))) (pw_or1 (pt_cmpR op_ne (pe_callB (id := "len") (r := Evl.rLenS K) call_len_seq (by rfl) T.b_len PySem.boot_len (pa_cons (pv 3) pa_nil)) pe_int (nomark _))))) (pss_one (ps_ret pe_bl)) pss_nil)
      (pss_cons (ps_asg (pv 3) (pg_tup (n := 2) (by rfl) (pgs_cons (pg_name (i := 4) sc_are_moves.nd rfl (Or.inl rfl)) (pgs_cons (pg_name (i := 5) sc_are_moves.nd rfl (Or.inl rfl)) pgs_nil))))
      (pss_cons (ps_if (PW.pt (pw_or (pt_not (pt_val (pe_call G_is_deed (hr.mono (by decide)) rfl D_is_deed.g D_is_deed.F.kp D_is_deed.b .nil pass0 (pa_cons (pv 4) pa_nil)))) (pw_or (pt_not (pt_val (pe_call G_is_below (hr.mono (by decide)) rfl D_is_below.g D_is_below.F.kp D_is_below.b .nil pass0 (pa_cons (pv 5) (pa_cons (pv 1) pa_nil))))) (pw_or1 (pt_cmp (pc_din hu (pv 4) (pv 2))))))) (pss_one (ps_ret pe_bl)) pss_nil)
      (pss_one (ps_dput hu (pv 2) (pv 4) pe_bl rfl))))))
      (pss_one (ps_ret pe_bl)))), ?_⟩
    try simp (maxSteps := 1000000) only [tSeq, tIfS, tTest, tOp, tUn, tCB, tCons, tNil, tVar, tC, rI0, rI, rU, rEq, rNe, tRet, tRetN, tAsg, gName, gSub, tBM, tBM0, tNext, tB, tNot, tAnd, tOr, tIf, tCall, tDrop, tBreak, tCont, L2.start, tDGet, sDPut, tTup, tLst, tDNewK, tRevL, rCat, rAppend, rPop, rSetL, tAndV, tOrV, tNotV, tSl, tPart, tNoPart, tM1, gTup, gCons, gNil, cxK, cxnK, List.map_cons, List.map_nil, List.length_cons, List.length_nil, List.replicate, List.cons_append, List.nil_append, List.append_nil, List.set_cons_zero, List.set_cons_succ, List.getElem?_cons_zero, List.getElem?_cons_succ, Option.some.injEq, V.ref.injEq, V.int.injEq, V.str.injEq, V.bl.injEq, V.ty.injEq, exists_eq_left', exists_eq_left, exists_and_left, List.cons.injEq, and_true, true_and, sc_ii, sc_ss, sc_bb, sc_ni, sc_in, sc_is, sc_si, sc_nn, decide_true, decide_false, reduceCtorEq, Bool.false_eq_true, if_true, if_false, ite_true, ite_false, exists_const, eq_self, false_and, and_false, or_false, false_or, exists_false, Evl.rLenS, rSum, wipe, tYes, exists_eq, exists_eq', rIxL, rIxT, rIxS, exists_and_right, gt_iff_lt, not_true_eq_false, not_false_eq_true, Bool.not_true, Bool.not_false, decide_eq_true_eq, Nat.reduceSub, Nat.reduceAdd, List.append_assoc, tChain, tDIn, tDNotIn, sDDel, tAug, ipI, rInt1_int, rInt1_bl]
    intro D nD
    refine forL_src ?_
    try simp (maxSteps := 1000000) only [tSeq, tIfS, tTest, tOp, tUn, tCB, tCons, tNil, tVar, tC, rI0, rI, rU, rEq, rNe, tRet, tRetN, tAsg, gName, gSub, tBM, tBM0, tNext, tB, tNot, tAnd, tOr, tIf, tCall, tDrop, tBreak, tCont, L2.start, tDGet, sDPut, tTup, tLst, tDNewK, tRevL, rCat, rAppend, rPop, rSetL, tAndV, tOrV, tNotV, tSl, tPart, tNoPart, tM1, gTup, gCons, gNil, cxK, cxnK, List.map_cons, List.map_nil, List.length_cons, List.length_nil, List.replicate, List.cons_append, List.nil_append, List.append_nil, List.set_cons_zero, List.set_cons_succ, List.getElem?_cons_zero, List.getElem?_cons_succ, Option.some.injEq, V.ref.injEq, V.int.injEq, V.str.injEq, V.bl.injEq, V.ty.injEq, exists_eq_left', exists_eq_left, exists_and_left, List.cons.injEq, and_true, true_and, sc_ii, sc_ss, sc_bb, sc_ni, sc_in, sc_is, sc_si, sc_nn, decide_true, decide_false, reduceCtorEq, Bool.false_eq_true, if_true, if_false, ite_true, ite_false, exists_const, eq_self, false_and, and_false, or_false, false_or, exists_false, Evl.rLenS, rSum, wipe, tYes, exists_eq, exists_eq', rIxL, rIxT, rIxS, exists_and_right, gt_iff_lt, not_true_eq_false, not_false_eq_true, Bool.not_true, Bool.not_false, decide_eq_true_eq, Nat.reduceSub, Nat.reduceAdd, List.append_assoc, tChain, tDIn, tDNotIn, sDDel, tAug, ipI, rInt1_int, rInt1_bl]
    refine forLC (fun i σ H' => ∃ (kvs : List (List Key × V)) (ms : List Mv) (x y z : Option V), H' D = some (.dT kvs) ∧ kvs.map (·.1) = ms.map (fun m => dK m.1) ∧ ds.take i = ms.map mvD ∧ (∀ m ∈ ms, GoodDd m.1 ∧ 0 ≤ m.2 ∧ m.2 < n) ∧ (ms.map (·.1)).Nodup ∧ Kp [] H H' ∧ σ = [some (.ref r), some (.int (n : Nat)), some (.ref D), x, y, z])
      (sq_l ((Kp.new nD) _ _ not0 hr')) ⟨[], [], none, none, none, upd_same, rfl, rfl, fun m h => (nomatch h), List.nodup_nil, Kp.new nD, rfl⟩ (fun j σ H' _ h => by obtain ⟨_, _, _, _, _, _, _, _, _, _, k, _⟩ := h; exact sq_l (k _ _ not0 hr')) (fun i v σ H' hv h => ?_) (fun σ H' h => ?_)
    · obtain ⟨kvs, ms, x, y, z, hD, hk, et, hgm, nd, kp, rfl⟩ := h
      obtain ⟨d, ed, hd0⟩ := DqAll.get hus hv
      have hd := Dq.kp kp hd0
      have li : i < ds.length := (List.getElem?_eq_some_iff.mp ed).1
      have szd : szD d = true := szAll_mem sz d (List.mem_of_getElem? ed)
      have bad : (∀ m : Mv, d = mvD m → GoodDd m.1 → 0 ≤ m.2 → m.2 < n → m.1 ∉ ms.map (·.1) → False) → ∀ H2, Kp [] H' H2 → Q (.bl false) H2 := fun no H2 k2 => qB (row_fails et ed no) H2 (kp.trans k2)
      try simp (maxSteps := 1000000) only [tSeq, tIfS, tTest, tOp, tUn, tCB, tCons, tNil, tVar, tC, rI0, rI, rU, rEq, rNe, tRet, tRetN, tAsg, gName, gSub, tBM, tBM0, tNext, tB, tNot, tAnd, tOr, tIf, tCall, tDrop, tBreak, tCont, L2.start, tDGet, sDPut, tTup, tLst, tDNewK, tRevL, rCat, rAppend, rPop, rSetL, tAndV, tOrV, tNotV, tSl, tPart, tNoPart, tM1, gTup, gCons, gNil, cxK, cxnK, List.map_cons, List.map_nil, List.length_cons, List.length_nil, List.replicate, List.cons_append, List.nil_append, List.append_nil, List.set_cons_zero, List.set_cons_succ, List.getElem?_cons_zero, List.getElem?_cons_succ, Option.some.injEq, V.ref.injEq, V.int.injEq, V.str.injEq, V.bl.injEq, V.ty.injEq, exists_eq_left', exists_eq_left, exists_and_left, List.cons.injEq, and_true, true_and, sc_ii, sc_ss, sc_bb, sc_ni, sc_in, sc_is, sc_si, sc_nn, decide_true, decide_false, reduceCtorEq, Bool.false_eq_true, if_true, if_false, ite_true, ite_false, exists_const, eq_self, false_and, and_false, or_false, false_or, exists_false, Evl.rLenS, rSum, wipe, tYes, exists_eq, exists_eq', rIxL, rIxT, rIxS, exists_and_right, gt_iff_lt, not_true_eq_false, not_false_eq_true, Bool.not_true, Bool.not_false, decide_eq_true_eq, Nat.reduceSub, Nat.reduceAdd, List.append_assoc, tChain, tDIn, tDNotIn, sDDel, tAug, ipI, rInt1_int, rInt1_bl]
      refine isi_Dtup hd ⟨_, rfl, ?_⟩
      cases hd with
      | @tup a xs es e ha =>
        rw [if_neg (by simp [isTupD])]
        have hl := dqLen ha
        try simp (maxSteps := 1000000) only [tSeq, tIfS, tTest, tOp, tUn, tCB, tCons, tNil, tVar, tC, rI0, rI, rU, rEq, rNe, tRet, tRetN, tAsg, gName, gSub, tBM, tBM0, tNext, tB, tNot, tAnd, tOr, tIf, tCall, tDrop, tBreak, tCont, L2.start, tDGet, sDPut, tTup, tLst, tDNewK, tRevL, rCat, rAppend, rPop, rSetL, tAndV, tOrV, tNotV, tSl, tPart, tNoPart, tM1, gTup, gCons, gNil, cxK, cxnK, List.map_cons, List.map_nil, List.length_cons, List.length_nil, List.replicate, List.cons_append, List.nil_append, List.append_nil, List.set_cons_zero, List.set_cons_succ, List.getElem?_cons_zero, List.getElem?_cons_succ, Option.some.injEq, V.ref.injEq, V.int.injEq, V.str.injEq, V.bl.injEq, V.ty.injEq, exists_eq_left', exists_eq_left, exists_and_left, List.cons.injEq, and_true, true_and, sc_ii, sc_ss, sc_bb, sc_ni, sc_in, sc_is, sc_si, sc_nn, decide_true, decide_false, reduceCtorEq, Bool.false_eq_true, if_true, if_false, ite_true, ite_false, exists_const, eq_self, false_and, and_false, or_false, false_or, exists_false, Evl.rLenS, rSum, wipe, tYes, exists_eq, exists_eq', rIxL, rIxT, rIxS, exists_and_right, gt_iff_lt, not_true_eq_false, not_false_eq_true, Bool.not_true, Bool.not_false, decide_eq_true_eq, Nat.reduceSub, Nat.reduceAdd, List.append_assoc, tChain, tDIn, tDNotIn, sDDel, tAug, ipI, rInt1_int, rInt1_bl]
        refine ⟨xs, .inr (sq_t e), ?_⟩
        rw [hl]
        by_cases h2 : es.length = 2
        · obtain ⟨dd, g, rfl⟩ : ∃ a b, es = [a, b] := by
            match es, h2 with
            | [a, b], _ => exact ⟨a, b, rfl⟩
          have hTM : ∀ m, PyData.tuple [dd, g] = mvD m → TM H' (.ref a) m := fun m em => dqMv (em ▸ .tup e ha)
          cases ha with
          | @cons v1 _ _ _ g1 ha =>
          cases ha with
          | @cons v2 _ _ _ g2 ha =>
          cases ha
          rw [if_neg (show ¬ (!decide ((([dd, g].length : Nat) : Int) = 2)) = true by rw [show [dd, g].length = 2 from rfl]; decide)]
          refine ⟨_, sq_t e, rfl, _, _, rfl, _, _, rfl, rfl, v1, dd, rfl, g1, szAll_mem szd dd (by simp), True.intro, fun H2 k2 => ⟨_, rfl, ?_⟩⟩
          cases hdd : deedB dd with
          | false =>
            refine bad (fun m em gd _ _ _ => ?_) H2 k2
            unfold mvD at em
            injection em with em
            injection em with em _
            rw [em, deedB_iff.mpr ⟨m.1, rfl, gd⟩] at hdd
            cases hdd
          | true =>
            rw [if_neg (by decide)]
            obtain ⟨x1, rfl, gx⟩ := deedB_iff.mp hdd
            refine ⟨v2, g, (n : Nat), rfl, Dq.kp k2 g2, _, rfl, ?_⟩
            cases hgb : belowD (n : Nat) g with
            | false =>
              refine bad (fun m em gd m0 m1 _ => ?_) H2 k2
              unfold mvD at em
              injection em with em
              injection em with _ em
              injection em with em _
              rw [em, below_iff.mpr ⟨m.2, rfl, m0, m1⟩] at hgb
              cases hgb
            | true =>
              rw [if_neg (by decide)]
              obtain ⟨gi, rfl, gi0, gi1⟩ := below_iff.mp hgb
              obtain ⟨a', t, ea, hta, htd⟩ := hTM (x1, gi) rfl
              cases ea
              rw [e] at hta
              injection hta with hta
              injection hta with hta
              injection hta with e1 hta
              subst e1
              have ht2 : TD H2 t x1 := k2.tps _ _ htd
              have hD2 := k2 _ _ not0 hD
              refine ⟨_, .t hD2 ht2.key, ?_⟩
              by_cases hin : x1 ∈ ms.map (·.1)
              · have vs : valV kvs (dK x1) ≠ none := fun e => valV_not e (by
                  rw [hk]
                  obtain ⟨m, hm, em⟩ := List.mem_map.mp hin
                  have em : m.1 = x1 := em
                  exact List.mem_map.mpr ⟨m, hm, by rw [em]⟩)
                rw [show (valV kvs (dK x1)).isSome = true from Option.isSome_iff_ne_none.mpr vs, if_pos rfl]
                exact bad (fun m em _ _ _ nin => nin (by rw [← mvD_inj (a := (x1, gi)) em]; exact hin)) H2 k2
              · have vn : valV kvs (dK x1) = none := valV_none (by
                  rw [hk]
                  intro z
                  obtain ⟨m, hm, em⟩ := List.mem_map.mp z
                  exact hin (List.mem_map.mpr ⟨m, hm, dK_inj em⟩))
                rw [vn]
                have lk : kvs.length ≤ 100 := by
                  have e1 := congrArg List.length hk
                  have e2 := congrArg List.length et
                  rw [List.length_map, List.length_map] at e1
                  rw [List.length_map, List.length_take] at e2
                  omega
                refine ⟨_, .t hD2 ht2.key (by rw [sizeLine_eq]; omega), _, upd_same, ms ++ [(x1, gi)], ?_, ?_, ?_, ?_, (kp.trans k2).wr nD⟩
                · rw [putK_new _ vn, List.map_append, hk, List.map_append]; rfl
                · rw [take_snoc ed, et, List.map_append]; rfl
                · intro m hm
                  rcases List.mem_append.mp hm with h | h
                  · exact hgm m h
                  · rw [List.mem_singleton.mp h]; exact ⟨gx, gi0, gi1⟩
                · rw [List.map_append, List.nodup_append]
                  refine ⟨nd, by simp, fun p hp c hc => ?_⟩
                  rw [show c = x1 by simpa using hc]
                  exact fun z => hin (z ▸ hp)
        · have n2 : ¬ ((es.length : Nat) : Int) = 2 := by omega
          rw [decide_eq_false n2, if_pos (by decide)]
          refine bad (fun m em _ _ _ _ => ?_) H' (Kp.refl _ _)
          unfold mvD at em
          injection em with em
          rw [em] at h2
          exact h2 rfl
      | _ => exact bad (fun m em _ _ _ _ => by unfold mvD at em; cases em) H' (Kp.refl _ _)
    · obtain ⟨kvs, ms, _, _, _, hD, hk, et, hgm, nd, k, rfl⟩ := h
      try simp (maxSteps := 1000000) only [tSeq, tIfS, tTest, tOp, tUn, tCB, tCons, tNil, tVar, tC, rI0, rI, rU, rEq, rNe, tRet, tRetN, tAsg, gName, gSub, tBM, tBM0, tNext, tB, tNot, tAnd, tOr, tIf, tCall, tDrop, tBreak, tCont, L2.start, tDGet, sDPut, tTup, tLst, tDNewK, tRevL, rCat, rAppend, rPop, rSetL, tAndV, tOrV, tNotV, tSl, tPart, tNoPart, tM1, gTup, gCons, gNil, cxK, cxnK, List.map_cons, List.map_nil, List.length_cons, List.length_nil, List.replicate, List.cons_append, List.nil_append, List.append_nil, List.set_cons_zero, List.set_cons_succ, List.getElem?_cons_zero, List.getElem?_cons_succ, Option.some.injEq, V.ref.injEq, V.int.injEq, V.str.injEq, V.bl.injEq, V.ty.injEq, exists_eq_left', exists_eq_left, exists_and_left, List.cons.injEq, and_true, true_and, sc_ii, sc_ss, sc_bb, sc_ni, sc_in, sc_is, sc_si, sc_nn, decide_true, decide_false, reduceCtorEq, Bool.false_eq_true, if_true, if_false, ite_true, ite_false, exists_const, eq_self, false_and, and_false, or_false, false_or, exists_false, Evl.rLenS, rSum, wipe, tYes, exists_eq, exists_eq', rIxL, rIxT, rIxS, exists_and_right, gt_iff_lt, not_true_eq_false, not_false_eq_true, Bool.not_true, Bool.not_false, decide_eq_true_eq, Nat.reduceSub, Nat.reduceAdd, List.append_assoc, tChain, tDIn, tDNotIn, sDDel, tAug, ipI, rInt1_int, rInt1_bl]
      rw [lm, List.take_length] at et
      refine qG ms et ⟨fun m hm => (hgm m hm).1, fun m hm => (hgm m hm).2, nd, ?_⟩ _ k
      have := congrArg List.length et
      rw [List.length_map] at this
      omega
end
end My

set_option Elab.async false
set_option linter.all false
set_option maxRecDepth 100000
set_option maxHeartbeats 4000000
namespace My
open PySem L2 NdefX
def rLstOf (K : PySem.W.Frag) : List V → Hp → VK → Prop := fun xs H Q => ∃ p ys, xs = [V.ref p] ∧ (SqL K H p ys ∨ SqT K H p ys) ∧ ∀ (l : Addr), H l = none → Q (V.ref l) (upd H l (HO.lst ys))
def SmallI (v : V) : Prop := ∃ i : Int, v = .int i ∧ 0 ≤ i ∧ i ≤ 5000
theorem hu6 {A : Around} {k : Nat} (hr : Room k A) : A.units + 70 < cLine := by have := hr.un; omega
/-- lists, tuples and dicts stand still -/
def isDat : HO → Prop
  | .lst _ => True
  | .tup _ => True
  | .dT _ => True
  | _ => False
def Kd (H H' : Hp) : Prop := ∀ a x, isDat x → H a = some x → H' a = some x
theorem Kd.refl (H : Hp) : Kd H H := fun _ _ _ h => h
theorem Kd.trans {H H1 H2 : Hp} (a : Kd H H1) (b : Kd H1 H2) : Kd H H2 := fun c o hc h => b c o hc (a c o hc h)
theorem Kp.kd {H H' : Hp} (k : Kp [] H H') : Kd H H' := fun a x _ h => k a x not0 h
theorem Kd.putI {H : Hp} {o C dx : Addr} {fs : List (Str × V)} {u : HO} (h : H o = some (.ins C dx fs)) : Kd H (upd H o u) := fun a x hx e => by
  rw [upd_ne (fun z => ?_)]
  · exact e
  · rw [z, h] at e; cases e; exact hx
theorem Kd.tps {H H' : Hp} (k : Kd H H') : Tp H H' := fun a xs h => k a _ True.intro h
theorem Kp.lstT {D : Addr} {H H' : Hp} {ys : List V} (k : Kp [D] H H') (h : H D = some (.lst ys)) {a : Addr} {xs : List V} (e : H a = some (.tup xs)) : H' a = some (.tup xs) := k a _ (not1 fun z => by rw [z, h] at e; cases e) e
/-- a comprehension over a list; what it makes may be lists of their own -/
theorem lcK {α : Type} {K : PySem.W.Frag} {tv : TE} {j : Nat} {te : TE} {σ : L2.St} {H : Hp} {Q : VK} {a : Addr} {us : List V} {gs : List α} {R : Hp → V → α → Prop} {R2 : Addr → Hp → V → α → Prop} (mono : ∀ H H' v x, Kp [] H H' → R H v x → R H' v x)
    (mono2 : ∀ D H H' v x ys, H D = some (.lst ys) → Kp [D] H H' → R2 D H v x → R2 D H' v x) (hv : ∀ R : VK, R (.ref a) H → tv σ H R) (ha : SqL K H a us) (hr : Rw (R H) us gs) (hl : gs.length ≤ 5000) (hj : j < σ.length)
    (elt : ∀ D v x H' (Q' : VK), x ∈ gs → R H' v x → Kp [] H H' → (∃ ys, H' D = some (.lst ys)) → (∀ v' H2, R2 D H2 v' x → Kp [] H' H2 → Q' v' H2) → te ((wipe σ [j]).set j (some v)) H' Q')
    (fin : ∀ D ws H', H D = none → H' D = some (.lst ws) → Rw (R2 D H') ws gs → Kp [] H H' → Q (.ref D) H') :
    tLc (iList K tv) (gName j) tYes te [j] σ H Q := by
  unfold tLc iList
  refine hv _ ⟨a, rfl, ⟨_, ha⟩, fun D nD => ?_⟩
  refine lc_list (xs := us) (fun i H' => ∃ ws, H' D = some (.lst ws) ∧ Rw (R2 D H') ws (gs.take i) ∧ Kp [] H H') ⟨[], upd_same, .nil, Kp.new nD⟩ (fun i H' _ h => by obtain ⟨_, _, _, k⟩ := h; exact k.ls not0 ha) (fun i x H' hx h => ?_) fun H' h => ?_
  · obtain ⟨g, eg, hg⟩ := hr.get hx
    obtain ⟨ws, hD, hw, kp⟩ := h
    refine ⟨by simp [wipe], ?_⟩
    simp only [tYes, if_true]
    refine elt D x g H' _ (List.mem_of_getElem? eg) (mono _ _ _ _ kp hg) kp ⟨_, hD⟩ fun v' H2 h2 k2 => ?_
    have hD2 := k2 _ _ not0 hD
    have kD : ∀ u, Kp [D] H2 (upd H2 D u) := fun u => (Kp.refl [D] H2).put (by simp)
    refine ⟨_, hD2, ?_, ws ++ [v'], upd_same, ?_, (kp.trans k2).wr nD⟩
    · rw [hw.len, List.length_take]; exact smallL (by omega)
    · rw [take_snoc eg]
      exact (hw.mono fun u g r => mono2 _ _ _ _ _ _ hD2 (kD _) (mono2 _ _ _ _ _ _ hD k2.of0 r)).snoc (mono2 _ _ _ _ _ _ hD2 (kD _) h2)
  · obtain ⟨ws, hD, hw, kp⟩ := h
    rw [hr.len, List.take_length] at hw
    exact fin D ws H' nD hD hw kp
theorem dcT_it {J : It} {n : Nat} {G : Hp → Prop} {Y : Nat → Hp → V → Hp → Prop} (wk : Walk J n G Y) {g : TG} {tt : TT} {tk tv : TE} {vs : List Nat} {σ : L2.St} {H1 : Hp} {D : Addr} {Qd : Hp → Prop} (Inv : Nat → Hp → Prop) (begins : Inv 0 (upd H1 D (.dT []))) (may : ∀ i H, i ≤ n → Inv i H → G H)
    (turn : ∀ i x H H', i < n → Inv i H → Y i H x H' → g x (wipe σ vs) H' fun σ2 H2 => wipe σ2 vs = wipe σ vs ∧ tt σ2 H2 fun b H3 =>
      if b = true then tk σ2 H3 fun y H4 => tv σ2 H4 fun z H5 => ∃ (kvs : List (List Key × V)) (k : List Key) (c : Addr), y = .ref c ∧ H5 c = some (.tup (k.map kV)) ∧ H5 D = some (.dT kvs) ∧ kvs.length < sizeLine ∧ Inv (i + 1) (upd H5 D (.dT (putK kvs k z))) else Inv (i + 1) H3) (ends : ∀ H, Inv n H → Qd H) :
    ∃ W : Nat → Nat → Hp → Prop, (∃ m, W 0 m (upd H1 D (.dT []))) ∧ ∀ i m H, W i m H →
      (J.stop i H ∧ Qd H) ∨ (J.go i H ∧ ∃ Nx : Hp → Prop, (∀ H', Nx H' → ∃ m', m' < m ∧ W (i + 1) m' H') ∧ ∀ x H', J.yld i H x H' → g x (wipe σ vs) H' fun σ2 H2 => wipe σ2 vs = wipe σ vs ∧ tt σ2 H2 fun b H3 =>
        if b = true then tk σ2 H3 fun y H4 => tv σ2 H4 fun z H5 => ∃ (kvs : List (List Key × V)) (k : List Key) (c : Addr), y = .ref c ∧ H5 c = some (.tup (k.map kV)) ∧ H5 D = some (.dT kvs) ∧ kvs.length < sizeLine ∧ Nx (upd H5 D (.dT (putK kvs k z))) else Nx H3) := by
  refine ⟨fun i m H => m + i = n ∧ Inv i H, ⟨n, rfl, begins⟩, fun i m H h => ?_⟩
  obtain ⟨e, p⟩ := h
  have ok := may i H (by omega) p
  rcases Nat.lt_or_ge i n with lt | ge
  · exact .inr ⟨wk.goes i H lt ok, Inv (i + 1), fun H' p' => ⟨m - 1, by omega, by omega, p'⟩, fun x H' y => turn i x H H' lt p (wk.yields i H x H' lt ok y)⟩
  · have z : i = n := by omega
    subst z
    exact .inl ⟨wk.stops H ok, ends H p⟩
/-! ### rows, and what a web keeps of them -/
def RwAt (H : Hp) (v : V) (ms : List Mv) : Prop := ∃ a us, v = .ref a ∧ H a = some (.lst us) ∧ Rw (TM H) us ms
def SrtAt (D : Addr) (H : Hp) (v : V) (ms : List Mv) : Prop := ∃ a us ms', v = .ref a ∧ a ≠ D ∧ H a = some (.lst us) ∧ Rw (TM H) us ms' ∧ ms'.Perm ms ∧ SrtO.Srtd mvLt ms'
def entM (m : Mv) : List Key × V := (dK m.1, .int m.2)
def GlAt (H : Hp) (v : V) (ms : List Mv) : Prop := ∃ a, v = .ref a ∧ H a = some (.dT (ms.map entM))
def hidM (ms : List Mv) : List Int := (ms.filter fun m => !visB m.1).map (·.2)
def HdAtD (D : Addr) (H : Hp) (v : V) (ms : List Mv) : Prop := ∃ a, v = .ref a ∧ a ≠ D ∧ H a = some (.lst ((hidM ms).map V.int))
def HdAt (H : Hp) (v : V) (ms : List Mv) : Prop := ∃ a, v = .ref a ∧ H a = some (.lst ((hidM ms).map V.int))
theorem rwTM {H H' : Hp} {us : List V} {ms : List Mv} (r : Rw (TM H) us ms) (t : Tp H H') : Rw (TM H') us ms := r.mono fun _ _ z => z.tp t
theorem RwAt.kd {H H' : Hp} {v : V} {ms : List Mv} (h : RwAt H v ms) (k : Kd H H') : RwAt H' v ms := by
  obtain ⟨a, us, e, h, r⟩ := h
  exact ⟨a, us, e, k _ _ True.intro h, rwTM r k.tps⟩
theorem GlAt.kd {H H' : Hp} {v : V} {ms : List Mv} (h : GlAt H v ms) (k : Kd H H') : GlAt H' v ms := by
  obtain ⟨a, e, h⟩ := h
  exact ⟨a, e, k _ _ True.intro h⟩
theorem HdAt.kd {H H' : Hp} {v : V} {ms : List Mv} (h : HdAt H v ms) (k : Kd H H') : HdAt H' v ms := by
  obtain ⟨a, e, h⟩ := h
  exact ⟨a, e, k _ _ True.intro h⟩
theorem SrtAt.kp {D : Addr} {H H' : Hp} {v : V} {ms : List Mv} {ys : List V} (hD : H D = some (.lst ys)) (k : Kp [D] H H') (h : SrtAt D H v ms) : SrtAt D H' v ms := by
  obtain ⟨a, us, ms', e, n, h, r, p⟩ := h
  exact ⟨a, us, ms', e, n, k _ _ (not1 n) h, rwTM r (k.tpsL hD), p⟩
theorem HdAtD.kp {D : Addr} {H H' : Hp} {v : V} {ms : List Mv} {ys : List V} (hD : H D = some (.lst ys)) (k : Kp [D] H H') (h : HdAtD D H v ms) : HdAtD D H' v ms := by
  obtain ⟨a, e, n, h⟩ := h
  exact ⟨a, e, n, k _ _ (not1 n) h⟩
theorem GlAt.kp {D : Addr} {H H' : Hp} {v : V} {ms : List Mv} {ys : List V} (hD : H D = some (.lst ys)) (k : Kp [D] H H') (h : GlAt H v ms) : GlAt H' v ms := by
  obtain ⟨a, e, h⟩ := h
  exact ⟨a, e, k _ _ (not1 fun z => by rw [z, hD] at h; cases h) h⟩
def SrM (ms ms' : List Mv) : Prop := ms'.Perm ms ∧ SrtO.Srtd mvLt ms'
theorem kV_inj {a b : Key} (h : kV a = kV b) : a = b := by
  cases a <;> cases b <;> cases h <;> rfl
theorem TD.inj {H : Hp} {t : Addr} {d d' : Dd} (h : TD H t d) (h' : TD H t d') : d = d' := by
  obtain ⟨a1, a2, a3⟩ := d
  obtain ⟨b1, b2, b3⟩ := d'
  unfold TD at h h'
  rw [h] at h'
  injection h' with h'
  injection h' with h'
  injection h' with e1 h'
  injection h' with e2 h'
  injection h' with e3 h'
  injection e1 with e1
  injection e2 with e2
  have e3 := kV_inj e3
  subst e1; subst e2; subst e3; rfl
theorem TM.inj {H : Hp} {v : V} {m m' : Mv} (h : TM H v m) (h' : TM H v m') : m = m' := by
  obtain ⟨a, t, e, h, d⟩ := h
  obtain ⟨a', t', e', h', d'⟩ := h'
  rw [e] at e'
  injection e' with e'
  subst e'
  rw [h] at h'
  injection h' with h'
  injection h' with h'
  injection h' with e1 h'
  injection h' with e2 h'
  injection e1 with e1
  injection e2 with e2
  subst e1
  obtain ⟨m1, m2⟩ := m
  obtain ⟨n1, n2⟩ := m'
  have e2 : m2 = n2 := e2
  have := TD.inj d d'
  have this : m1 = n1 := this
  rw [e2, this]
open Classical in
noncomputable def kOf (H : Hp) (v : V) : Mv := if h : ∃ m, TM H v m then h.choose else ((0, "", .inl 0), 0)
theorem kOf_eq {H : Hp} {v : V} {m : Mv} (h : TM H v m) : kOf H v = m := by
  unfold kOf
  rw [dif_pos ⟨m, h⟩]
  exact TM.inj (Exists.choose_spec (p := fun m => TM H v m) ⟨m, h⟩) h
theorem kOf_map {H : Hp} {us : List V} {ms : List Mv} (h : Rw (TM H) us ms) : us.map (kOf H) = ms := by
  refine List.ext_getElem? fun i => ?_
  rw [List.getElem?_map]
  cases e : us[i]? with
  | none =>
    have := List.getElem?_eq_none_iff.mp e
    exact (List.getElem?_eq_none_iff.mpr (by rw [← h.len]; exact this)).symm
  | some u =>
    obtain ⟨m, em, hm⟩ := h.get e
    rw [em]
    exact congrArg some (kOf_eq hm)
theorem kOf_rw {H : Hp} {us : List V} {ms : List Mv} (h : Rw (TM H) us ms) {ys : List V} (p : ys.Perm us) : Rw (TM H) ys (ys.map (kOf H)) := by
  refine ⟨by simp, fun {i x} e => ?_⟩
  have hx : x ∈ us := p.mem_iff.mp (List.mem_of_getElem? e)
  obtain ⟨j, ej⟩ := List.getElem?_of_mem hx
  obtain ⟨m, _, hm⟩ := h.get ej
  refine ⟨m, ?_, hm⟩
  rw [List.getElem?_map, e]
  exact congrArg some (kOf_eq hm)
theorem strOk_name {z : Str} (h : nameS z = true) : PyData.strOk z = true := by
  unfold nameS at h
  rw [Bool.and_eq_true, Bool.and_eq_true] at h
  unfold PyData.strOk
  rw [← Array.all_toList, List.all_eq_true]
  intro c hc
  have := List.all_eq_true.mp h.2.2 c hc
  unfold lowC at this
  rw [Bool.and_eq_true, decide_eq_true_eq, decide_eq_true_eq] at this
  exact decide_eq_true (by omega)
theorem MvOk.of {n : Nat} {m : Mv} (hd : GoodDd m.1) (hg : 0 ≤ m.2 ∧ m.2 < n) : MvOk m := by
  obtain ⟨⟨c, wd, k⟩, g⟩ := m
  obtain ⟨c0, c3, h⟩ := hd
  refine ⟨c0, hg.1, ?_, ?_⟩
  · rcases h with ⟨_, z, hx, hz⟩ | ⟨_, j, hx, j0, j9⟩
    · have hx : k = .inr z := hx
      subst hx; exact True.intro
    · have hx : k = .inl j := hx
      subst hx; exact j0
  · have key : PyData.strOk wd = true ∧ PyData.canLay0 (kD k) = true := by
      rcases h with ⟨hw, z, hx, hz⟩ | ⟨hw, j, hx, j0, j9⟩
      · have hx : k = .inr z := hx
        have hw : wd = ("call" : Str) := hw
        subst hx; subst hw
        exact ⟨by decide +kernel, strOk_name hz⟩
      · have hx : k = .inl j := hx
        subst hx
        refine ⟨?_, rfl⟩
        rcases hw with hw | hw
        · have hw : wd = ("return" : Str) := hw
          subst hw; decide +kernel
        · have hw : wd = ("step" : Str) := hw
          subst hw; decide +kernel
    show (true && (PyData.strOk wd && (PyData.canLay0 (kD k) && true))) = true
    rw [key.1, key.2]; rfl
theorem MvCmp.of {m m' : Mv} (h : GoodDd m.1) (h' : GoodDd m'.1) : MvCmp m m' := by
  obtain ⟨⟨c, wd, k⟩, g⟩ := m
  obtain ⟨⟨c', wd', k'⟩, g'⟩ := m'
  obtain ⟨_, _, h⟩ := h
  obtain ⟨_, _, h'⟩ := h'
  intro _ e
  have e : wd = wd' := e
  subst e
  have nc : ¬ (wd = ("call" : Str) ∧ (wd = ("return" : Str) ∨ wd = ("step" : Str))) := by
    rintro ⟨rfl, h | h⟩
    · exact absurd h (by decide +kernel)
    · exact absurd h (by decide +kernel)
  show sameK k k' = true
  rcases h with ⟨hw, z, hx, hz⟩ | ⟨hw, j, hx, j0, j9⟩
  · have hx : k = .inr z := hx
    subst hx
    rcases h' with ⟨hw', z', hx', hz'⟩ | ⟨hw', j', hx', j0', j9'⟩
    · have hx' : k' = .inr z' := hx'
      subst hx'; rfl
    · exact absurd ⟨hw, hw'⟩ nc
  · have hx : k = .inl j := hx
    subst hx
    rcases h' with ⟨hw', z', hx', hz'⟩ | ⟨hw', j', hx', j0', j9'⟩
    · exact absurd ⟨hw', hw⟩ nc
    · have hx' : k' = .inl j' := hx'
      subst hx'; rfl
section
variable {K : PySem.W.Frag}
theorem TM.dp {H : Hp} {v : V} {m : Mv} (h : TM H v m) : Dp K H v (mvD m) := by
  obtain ⟨a, t, rfl, h1, h2⟩ := h
  exact .tup (sq_t h1) (.cons (.tup (sq_t h2) (.cons (.int _) (.cons (.str _) (.cons (by cases m.1.2.2 with | inl i => exact .int i | inr z => exact .str z) .nil)))) (.cons (.int _) .nil))
end
end My

set_option Elab.async false
set_option linter.all false
set_option maxRecDepth 100000
set_option maxHeartbeats 4000000
namespace My
open PySem L2 NdefX
abbrev s_Web_init : Stmt := mtop 15 0
theorem sc_Web_init : FnScope ["self", "rows", "at", "row", "deed", "goal"] ["self", "rows"] (defScope s_Web_init) := ⟨rfl, rfl, rfl, by decide +kernel, rfl, by decide +kernel, by decide +kernel⟩
structure BtW (mg : Str → Option Value) (t1 : Tok) : Prop where
  b_sorted : mg "sorted" = none
  b_list : mg "list" = none
  b_len : mg "len" = none
  b_enumerate : mg "enumerate" = none
  c_MOST_STANDINGS : mg "MOST_STANDINGS" = some (.int 4000 t1)
structure WbC (K : PySem.W.Frag) (mg : Str → Option Value) (WC : Addr) : Prop where
  k : mg "Web" = some (.ref WC)
  cl : Cls K WC
  n1 : NoAttr K WC "_rows"
  n2 : NoAttr K WC "_goals"
  n3 : NoAttr K WC "_hidden"
/-- at o a web whose sorted rows these are -/
def WebAt (WC : Addr) (H : Hp) (o : Addr) (srs : List (List Mv)) : Prop := ∃ (dx a b c : Addr) (us gs hs : List V), H o = some (.ins WC dx [("_rows", .ref a), ("_goals", .ref b), ("_hidden", .ref c)]) ∧ H a = some (.lst us) ∧ Rw (RwAt H) us srs ∧ H b = some (.lst gs) ∧ Rw (GlAt H) gs srs ∧ H c = some (.lst hs) ∧ Rw (HdAt H) hs srs
theorem WebAt.kp {WC : Addr} {H H' : Hp} {o : Addr} {srs : List (List Mv)} (h : WebAt WC H o srs) (k : Kp [] H H') : WebAt WC H' o srs := by
  obtain ⟨dx, a, b, c, us, gs, hs, h1, h2, r2, h3, r3, h4, r4⟩ := h
  exact ⟨dx, a, b, c, us, gs, hs, k _ _ not0 h1, k _ _ not0 h2, r2.mono fun _ _ z => z.kd k.kd, k _ _ not0 h3, r3.mono fun _ _ z => z.kd k.kd, k _ _ not0 h4, r4.mono fun _ _ z => z.kd k.kd⟩
structure SrRel (rows srs : List (List Mv)) : Prop where
  len : srs.length = rows.length
  at_ : ∀ {i : Nat} {r : List Mv}, rows[i]? = some r → ∃ s, srs[i]? = some s ∧ SrM r s
theorem srt_split {D : Addr} {H : Hp} : ∀ {rows : List (List Mv)} {ws : List V}, Rw (SrtAt D H) ws rows → ∃ srs, SrRel rows srs ∧ Rw (RwAt H) ws srs
  | [], ws, h => ⟨[], ⟨rfl, fun e => nomatch e⟩, by rw [h.isNil]; exact .nil⟩
  | r :: rows, ws, h => by
    obtain ⟨u, ws', rfl, ⟨a, us, ms', e, _, hl, hr, p⟩, t⟩ := h.ex
    obtain ⟨srs, s1, s2⟩ := srt_split t
    refine ⟨ms' :: srs, ⟨by simp [s1.len], fun {i x} e => ?_⟩, .cons ⟨a, us, e, hl, hr⟩ s2⟩
    cases i with
    | zero => cases e; exact ⟨ms', rfl, p⟩
    | succ i => exact s1.at_ (i := i) e
def spWI (WC : Addr) : Sp := fun vs H Q E => ∃ (o dx a : Addr) (us : List V) (rows : List (List Mv)), vs = [.ref o, .ref a] ∧ H o = some (.ins WC dx []) ∧ H a = some (.lst us) ∧ Rw (RwAt H) us rows ∧ 1 ≤ rows.length ∧ rows.length ≤ 100 ∧ (∀ r ∈ rows, GoodRw rows.length r) ∧
  ∀ srs H', SrRel rows srs → WebAt WC H' o srs → Kp [o] H H' → Q .non H'
def T1 (K : PySem.W.Frag) : TE := tCB (rSortedM K) (tCons (tCB (rLstOf K) (tCons (tVar 3) tNil)) tNil)
section
variable {P : Program} {w : World} {K : PySem.W.Frag} {mg : Str → Option Value} {base : Heap} {tL t1 t2 : Tok}
theorem GoodRw.perm {n : Nat} {ms ms' : List Mv} (h : GoodRw n ms) (p : ms'.Perm ms) : GoodRw n ms' := ⟨fun m hm => h.deed m (p.mem_iff.mp hm), fun m hm => h.goal m (p.mem_iff.mp hm), (p.map (·.1)).nodup_iff.mpr h.uniq, by rw [p.length_eq]; exact h.len⟩
theorem w_elt1 {n : Nat} {a0 a1 a2 a4 a5 : Option V} {H' : Hp} {v : V} {ms : List Mv} {D : Addr} (hg : GoodRw n ms) (h : RwAt H' v ms) (hD : ∃ ys, H' D = some (.lst ys)) {Q' : VK} (q : ∀ p H2, H' p = none → SrtAt D H2 (.ref p) ms → Kp [] H' H2 → Q' (.ref p) H2) : T1 K [a0, a1, a2, some v, a4, a5] H' Q' := by
  obtain ⟨r, us, rfl, hr, hm⟩ := h
  obtain ⟨dys, hD⟩ := hD
  unfold T1
  try simp (maxSteps := 1000000) only [tSeq, tIfS, tTest, tOp, tUn, tCB, tCons, tNil, tVar, tC, rI0, rI, rU, rEq, rNe, tRet, tRetN, tAsg, gName, gSub, tBM, tBM0, tNext, tB, tNot, tAnd, tOr, tIf, tCall, tDrop, tBreak, tCont, L2.start, tDGet, sDPut, tTup, tLst, tDNewK, tRevL, rCat, rAppend, rPop, rSetL, tAndV, tOrV, tNotV, tSl, tPart, tNoPart, tM1, gTup, gCons, gNil, cxK, cxnK, List.map_cons, List.map_nil, List.length_cons, List.length_nil, List.replicate, List.cons_append, List.nil_append, List.append_nil, List.set_cons_zero, List.set_cons_succ, List.getElem?_cons_zero, List.getElem?_cons_succ, Option.some.injEq, V.ref.injEq, V.int.injEq, V.str.injEq, V.bl.injEq, V.ty.injEq, exists_eq_left', exists_eq_left, exists_and_left, List.cons.injEq, and_true, true_and, sc_ii, sc_ss, sc_bb, sc_ni, sc_in, sc_is, sc_si, sc_nn, decide_true, decide_false, reduceCtorEq, Bool.false_eq_true, if_true, if_false, ite_true, ite_false, exists_const, eq_self, false_and, and_false, or_false, false_or, exists_false, Evl.rLenS, rSum, wipe, tYes, exists_eq, exists_eq', rIxL, rIxT, rIxS, exists_and_right, gt_iff_lt, not_true_eq_false, not_false_eq_true, Bool.not_true, Bool.not_false, decide_eq_true_eq, Nat.reduceSub, Nat.reduceAdd, List.append_assoc, tChain, tDIn, tDNotIn, sDDel, tAug, ipI, rInt1_int, rInt1_bl]
  refine ⟨r, us, rfl, .inl (sq_l hr), fun l nl => ?_⟩
  have k1 : Kp [] H' (upd H' l (.lst us)) := Kp.new nl
  have hl : (upd H' l (.lst us)) l = some (.lst us) := upd_same
  generalize upd H' l (.lst us) = H2 at k1 hl
  have hm2 := rwTM hm k1.tps
  have hx : ∀ x ∈ us, ∃ m ∈ ms, TM H2 x m := fun x hx => by
    obtain ⟨j, ej⟩ := List.getElem?_of_mem hx
    obtain ⟨m, em, hm⟩ := hm2.get ej
    exact ⟨m, List.mem_of_getElem? em, hm⟩
  refine ⟨l, us, kOf H2, rfl, sq_l hl, fun x hh => ?_, fun x hh y hy => ?_, fun ys p srt perm np => ?_⟩
  · obtain ⟨m, mm, hm⟩ := hx x hh
    rw [kOf_eq hm]
    exact ⟨hm.dp, MvOk.of (hg.deed m mm) (hg.goal m mm)⟩
  · obtain ⟨m, mm, hm⟩ := hx x hh
    obtain ⟨m', mm', hm'⟩ := hx y hy
    rw [kOf_eq hm, kOf_eq hm']
    exact MvCmp.of (hg.deed m mm) (hg.deed m' mm')
  · have k2 : Kp [] H2 (upd H2 p (.lst ys)) := Kp.new np
    refine q _ _ (k1.free0 np) ⟨p, ys, ys.map (kOf H2), rfl, fun z => ?_, upd_same, rwTM (kOf_rw hm2 perm) k2.tps, ?_, ?_⟩ (k1.trans k2)
    · rw [z, k1 _ _ not0 hD] at np; cases np
    · have := perm.map (kOf H2)
      rw [kOf_map hm2] at this
      exact this
    · exact List.pairwise_map.mpr srt
def T2 (K : PySem.W.Frag) : TE := tDcT (iList K (tVar 3)) (gTup K 2 (gCons (gName 4) (gCons (gName 5) gNil))) tYes (tVar 4) (tVar 5) [4, 5]
theorem not_before {ms : List Mv} {i : Nat} {m : Mv} (nd : (ms.map (·.1)).Nodup) (em : ms[i]? = some m) : dK m.1 ∉ (ms.take i).map fun m => dK m.1 := by
  intro hh
  have li : i < ms.length := (List.getElem?_eq_some_iff.mp em).1
  obtain ⟨m', hm', e⟩ := List.mem_map.mp hh
  have e := dK_inj e
  obtain ⟨j, hj, ej⟩ := List.mem_iff_getElem.mp hm'
  rw [List.length_take] at hj
  rw [List.getElem_take] at ej
  have := List.pairwise_iff_getElem.mp (List.nodup_iff_pairwise_ne.mp nd) j i (by rw [List.length_map]; omega) (by rw [List.length_map]; omega) (by omega)
  rw [List.getElem_map, List.getElem_map, ej, (List.getElem?_eq_some_iff.mp em).2] at this
  exact this e
theorem w_elt2 {n : Nat} {a0 a1 a2 a4 a5 : Option V} {H' : Hp} {v : V} {ms : List Mv} (hg : GoodRw n ms) (h : RwAt H' v ms) {Q' : VK} (q : ∀ p H2, H' p = none → GlAt H2 (.ref p) ms → Kp [] H' H2 → Q' (.ref p) H2) : T2 K [a0, a1, a2, some v, a4, a5] H' Q' := by
  obtain ⟨r, us, rfl, hr, hm⟩ := h
  unfold T2 tDcT iList
  refine ⟨.ref r, rfl, r, rfl, ⟨_, sq_l hr⟩, fun D nD => dcT_it (walk_list (K := K) (a := r) (xs := us)) (fun i H2 => H2 D = some (.dT ((ms.take i).map entM)) ∧ Kp [] H' H2) ⟨upd_same, Kp.new nD⟩ (fun i H2 _ h => h.2.ls not0 (sq_l hr)) ?_ ?_⟩
  · rintro i x H2 H3 hi ⟨hD, kp⟩ ⟨rfl, hx⟩
    obtain ⟨m, em, hm⟩ := hm.get hx
    obtain ⟨b, t, rfl, hb, ht⟩ := hm.tp kp.tps
    try simp (maxSteps := 1000000) only [tSeq, tIfS, tTest, tOp, tUn, tCB, tCons, tNil, tVar, tC, rI0, rI, rU, rEq, rNe, tRet, tRetN, tAsg, gName, gSub, tBM, tBM0, tNext, tB, tNot, tAnd, tOr, tIf, tCall, tDrop, tBreak, tCont, L2.start, tDGet, sDPut, tTup, tLst, tDNewK, tRevL, rCat, rAppend, rPop, rSetL, tAndV, tOrV, tNotV, tSl, tPart, tNoPart, tM1, gTup, gCons, gNil, cxK, cxnK, List.map_cons, List.map_nil, List.length_cons, List.length_nil, List.replicate, List.cons_append, List.nil_append, List.append_nil, List.set_cons_zero, List.set_cons_succ, List.getElem?_cons_zero, List.getElem?_cons_succ, Option.some.injEq, V.ref.injEq, V.int.injEq, V.str.injEq, V.bl.injEq, V.ty.injEq, exists_eq_left', exists_eq_left, exists_and_left, List.cons.injEq, and_true, true_and, sc_ii, sc_ss, sc_bb, sc_ni, sc_in, sc_is, sc_si, sc_nn, decide_true, decide_false, reduceCtorEq, Bool.false_eq_true, if_true, if_false, ite_true, ite_false, exists_const, eq_self, false_and, and_false, or_false, false_or, exists_false, Evl.rLenS, rSum, wipe, tYes, exists_eq, exists_eq', rIxL, rIxT, rIxS, exists_and_right, gt_iff_lt, not_true_eq_false, not_false_eq_true, Bool.not_true, Bool.not_false, decide_eq_true_eq, Nat.reduceSub, Nat.reduceAdd, List.append_assoc, tChain, tDIn, tDNotIn, sDDel, tAug, ipI, rInt1_int, rInt1_bl]
    have ln : ((ms.take i).map entM).length < sizeLine := by
      rw [List.length_map, List.length_take, sizeLine_eq]
      have := hg.len
      omega
    have vn : valV ((ms.take i).map entM) (dK m.1) = none := valV_none (by
      rw [List.map_map]
      exact not_before hg.uniq em)
    refine ⟨_, sq_t hb, rfl, _, _, rfl, _, _, rfl, rfl, _, dK m.1, t, rfl, ht.key, hD, ln, ?_, kp.wr nD⟩
    rw [upd_same, putK_new _ vn, take_snoc em, List.map_append]; rfl
  · rintro H2 ⟨hD, kp⟩
    rw [hm.len, List.take_length] at hD
    exact q _ _ nD ⟨D, rfl, hD⟩ kp
def T3 (K : PySem.W.Frag) : TE := tLc (iList K (tVar 3)) (gTup K 2 (gCons (gName 4) (gCons (gName 5) gNil))) (tNot (tB (tCall spVis [] E0 (tCons (tVar 4) tNil)))) (tVar 5) [4, 5]
theorem w_elt3 {n : Nat} {a0 a1 a2 a4 a5 : Option V} {H' : Hp} {v : V} {ms : List Mv} {D : Addr} (hg : GoodRw n ms) (h : RwAt H' v ms) (hD : ∃ ys, H' D = some (.lst ys)) {Q' : VK} (q : ∀ p H2, H' p = none → HdAtD D H2 (.ref p) ms → Kp [] H' H2 → Q' (.ref p) H2) : T3 K [a0, a1, a2, some v, a4, a5] H' Q' := by
  obtain ⟨r, us, rfl, hr, hm⟩ := h
  obtain ⟨dys, hD⟩ := hD
  unfold T3 tLc iList
  refine ⟨.ref r, rfl, r, rfl, ⟨_, sq_l hr⟩, fun p np => lc_list (xs := us) (fun i H2 => H2 p = some (.lst ((hidM (ms.take i)).map V.int)) ∧ Kp [] H' H2) ⟨upd_same, Kp.new np⟩ (fun i H2 _ h => h.2.ls not0 (sq_l hr)) (fun i x H2 hx h => ?_) fun H2 h => ?_⟩
  · obtain ⟨hp, kp⟩ := h
    obtain ⟨m, em, hm⟩ := hm.get hx
    obtain ⟨b, t, rfl, hb, ht⟩ := hm.tp kp.tps
    try simp (maxSteps := 1000000) only [tSeq, tIfS, tTest, tOp, tUn, tCB, tCons, tNil, tVar, tC, rI0, rI, rU, rEq, rNe, tRet, tRetN, tAsg, gName, gSub, tBM, tBM0, tNext, tB, tNot, tAnd, tOr, tIf, tCall, tDrop, tBreak, tCont, L2.start, tDGet, sDPut, tTup, tLst, tDNewK, tRevL, rCat, rAppend, rPop, rSetL, tAndV, tOrV, tNotV, tSl, tPart, tNoPart, tM1, gTup, gCons, gNil, cxK, cxnK, List.map_cons, List.map_nil, List.length_cons, List.length_nil, List.replicate, List.cons_append, List.nil_append, List.append_nil, List.set_cons_zero, List.set_cons_succ, List.getElem?_cons_zero, List.getElem?_cons_succ, Option.some.injEq, V.ref.injEq, V.int.injEq, V.str.injEq, V.bl.injEq, V.ty.injEq, exists_eq_left', exists_eq_left, exists_and_left, List.cons.injEq, and_true, true_and, sc_ii, sc_ss, sc_bb, sc_ni, sc_in, sc_is, sc_si, sc_nn, decide_true, decide_false, reduceCtorEq, Bool.false_eq_true, if_true, if_false, ite_true, ite_false, exists_const, eq_self, false_and, and_false, or_false, false_or, exists_false, Evl.rLenS, rSum, wipe, tYes, exists_eq, exists_eq', rIxL, rIxT, rIxS, exists_and_right, gt_iff_lt, not_true_eq_false, not_false_eq_true, Bool.not_true, Bool.not_false, decide_eq_true_eq, Nat.reduceSub, Nat.reduceAdd, List.append_assoc, tChain, tDIn, tDNotIn, sDDel, tAug, ipI, rInt1_int, rInt1_bl]
    refine ⟨_, sq_t hb, rfl, _, _, rfl, _, _, rfl, rfl, t, m.1, rfl, ht, _, rfl, ?_⟩
    have e1 : hidM (ms.take (i + 1)) = if (!visB m.1) = true then hidM (ms.take i) ++ [m.2] else hidM (ms.take i) := by
      unfold hidM
      rw [take_snoc em, List.filter_append, List.map_append]
      cases hv : visB m.1 with
      | true => simp [hv]
      | false => simp [hv]
    rw [e1]
    cases hv : visB m.1 with
    | true =>
      simp only [Bool.not_true, Bool.false_eq_true, if_false]
      exact ⟨hp, kp⟩
    | false =>
      simp only [Bool.not_false, if_true]
      refine ⟨_, hp, ?_, ?_, kp.wr np⟩
      · rw [List.length_map]
        unfold hidM
        rw [List.length_map]
        have h1 := List.length_filter_le (fun m => !visB m.1) (ms.take i)
        rw [List.length_take] at h1
        have := hg.len
        rw [sizeLine_eq]; omega
      · rw [upd_same, List.map_append]; rfl
  · obtain ⟨hp, kp⟩ := h
    rw [hm.len, List.take_length] at hp
    exact q _ _ np ⟨p, rfl, (fun z => by rw [z, hD] at np; cases np), hp⟩ kp
end
end My

set_option Elab.async false
set_option linter.all false
set_option maxRecDepth 100000
set_option maxHeartbeats 4000000
namespace My
open PySem L2 NdefX
def RwD (H : Hp) (v : V) (ds : List PyData) : Prop := ∃ a us, v = .ref a ∧ H a = some (.lst us) ∧ DqAll H us ds
theorem RwD.kp {H H' : Hp} {v : V} {ds : List PyData} (h : RwD H v ds) (k : Kp [] H H') : RwD H' v ds := by
  obtain ⟨a, us, e, h, r⟩ := h
  exact ⟨a, us, e, k _ _ not0 h, DqAll.kp k r⟩
theorem dqRw {H : Hp} : ∀ {ms : List Mv} {us : List V}, DqAll H us (ms.map mvD) → Rw (TM H) us ms
  | [], _, h => by cases h; exact .nil
  | m :: ms, _, h => by
    cases h with
    | cons a t => exact .cons (dqMv a) (dqRw t)
theorem RwD.at_ {H : Hp} {v : V} {ms : List Mv} (h : RwD H v (ms.map mvD)) : RwAt H v ms := by
  obtain ⟨a, us, e, h, r⟩ := h
  exact ⟨a, us, e, h, dqRw r⟩
/-- a row of data that is no row of a web of n standings -/
def BadRw (n : Nat) (ds : List PyData) : Prop := ∀ ms, ds = ms.map mvD → ¬ GoodRw n ms
def OkRw (n : Nat) (ds : List PyData) : Prop := ∃ ms, ds = ms.map mvD ∧ GoodRw n ms
theorem all_ok {n : Nat} : ∀ {rows : List (List PyData)}, (∀ y ∈ rows, OkRw n y) → ∃ mss : List (List Mv), rows = mss.map (·.map mvD) ∧ ∀ ms ∈ mss, GoodRw n ms
  | [], _ => ⟨[], rfl, fun _ h => nomatch h⟩
  | y :: rows, h => by
    obtain ⟨ms, e, g⟩ := h y (by simp)
    obtain ⟨mss, e2, g2⟩ := all_ok (rows := rows) fun z hz => h z (by simp [hz])
    refine ⟨ms :: mss, by rw [e, e2]; rfl, fun x hx => ?_⟩
    rcases List.mem_cons.mp hx with rfl | hx
    · exact g
    · exact g2 x hx
def FrD (H0 : Hp) (v : V) : Prop := ∃ r, v = .ref r ∧ H0 r = none
theorem rwFr {α : Type} {H0 : Hp} {R : V → α → Prop} {us : List V} {gs : List α} (h : Rw (fun v x => R v x ∧ FrD H0 v) us gs) : Rw R us gs ∧ ∀ v ∈ us, FrD H0 v := ⟨h.mono fun _ _ z => z.1, fun v hv => by
  obtain ⟨i, ei⟩ := List.getElem?_of_mem hv
  obtain ⟨g, _, hg⟩ := h.get ei
  exact hg.2⟩
theorem rwMem {α : Type} {R R' : V → α → Prop} {us : List V} {gs : List α} (h : Rw R us gs) (f : ∀ u g, u ∈ us → R u g → R' u g) : Rw R' us gs := ⟨h.len, fun e => by
  obtain ⟨g, eg, hg⟩ := h.get e
  exact ⟨g, eg, f _ _ (List.mem_of_getElem? e) hg⟩⟩
/-- a web whose lists are new stands when old lists are written -/
theorem web_fr {WC : Addr} {H H' H2 : Hp} {o dx dx0 a b c : Addr} {f0 : List (Str × V)} {us gs hs : List V} {srs : List (List Mv)} {S : List Addr} (ho0 : H o = some (.ins WC dx0 f0)) (k : Kp [o] H H') (hS : ∀ x ∈ S, ∃ ys, H x = some (.lst ys)) (k2 : Kp S H' H2)
    (ho : H' o = some (.ins WC dx [("_rows", .ref a), ("_goals", .ref b), ("_hidden", .ref c)])) (na : H a = none) (nb : H b = none) (nc : H c = none) (ha : H' a = some (.lst us)) (hu : Rw (RwAt H') us srs) (hb : H' b = some (.lst gs)) (hg : Rw (GlAt H') gs srs) (hc : H' c = some (.lst hs)) (hh : Rw (HdAt H') hs srs)
    (fu : ∀ v ∈ us, FrD H v) (fg : ∀ v ∈ gs, FrD H v) (fh : ∀ v ∈ hs, FrD H v) : WebAt WC H2 o srs := by
  have nS : ∀ x, H x = none → x ∉ S := fun x hx z => by
    obtain ⟨ys, e⟩ := hS x z
    rw [hx] at e; cases e
  have oS : o ∉ S := fun z => by
    obtain ⟨ys, e⟩ := hS o z
    rw [ho0] at e; cases e
  have tp : Tp H' H2 := fun x xs e => k2 x _ (fun z => by
    obtain ⟨ys, ey⟩ := hS x z
    have := k x _ (not1 fun w => by rw [w, ho0] at ey; cases ey) ey
    rw [e] at this; cases this) e
  refine ⟨dx, a, b, c, us, gs, hs, k2 _ _ oS ho, k2 _ _ (nS a na) ha, rwMem hu fun u g hu2 z => ?_, k2 _ _ (nS b nb) hb, rwMem hg fun u g hu2 z => ?_, k2 _ _ (nS c nc) hc, rwMem hh fun u g hu2 z => ?_⟩
  · obtain ⟨r, rus, e, h, hm⟩ := z
    obtain ⟨r', e', n⟩ := fu u hu2
    rw [e] at e'; cases e'
    exact ⟨r, rus, e, k2 _ _ (nS r n) h, rwTM hm tp⟩
  · obtain ⟨r, e, h⟩ := z
    obtain ⟨r', e', n⟩ := fg u hu2
    rw [e] at e'; cases e'
    exact ⟨r, e, k2 _ _ (nS r n) h⟩
  · obtain ⟨r, e, h⟩ := z
    obtain ⟨r', e', n⟩ := fh u hu2
    rw [e] at e'; cases e'
    exact ⟨r, e, k2 _ _ (nS r n) h⟩
def spWID (WC TL BW : Addr) : Sp := fun vs H Q E => ∃ (o dx a : Addr) (us : List V) (rows : List (List PyData)), vs = [.ref o, .ref a] ∧ H o = some (.ins WC dx []) ∧ H a = some (.lst us) ∧ Rw (RwD H) us rows ∧ rows.length ≤ 5000 ∧
  (1 ≤ rows.length → rows.length ≤ 4000 → ∀ ds ∈ rows, szAll ds = true ∧ ds.length ≤ 100) ∧
  (∀ (mss : List (List Mv)) srs H', 1 ≤ rows.length → rows.length ≤ 4000 → rows = mss.map (·.map mvD) → (∀ ms ∈ mss, GoodRw rows.length ms) → SrRel mss srs → WebAt WC H' o srs → (∀ S H2, (∀ x ∈ S, ∃ ys, H x = some (.lst ys)) → Kp S H' H2 → WebAt WC H2 o srs) → Kp [o] H H' → Q .non H') ∧
  (¬ (1 ≤ rows.length ∧ rows.length ≤ 4000) → ∀ (e : Addr) (H' : Hp), H e = none → H' e = some (.xd [("bound", .int 4000)]) → Kp [] H H' → E (.ref TL) (some e) H') ∧
  (∀ (i : Nat) ds, 1 ≤ rows.length → rows.length ≤ 4000 → rows[i]? = some ds → BadRw rows.length ds → (∀ j y, j < i → rows[j]? = some y → OkRw rows.length y) → ∀ (e : Addr) (H' : Hp), H e = none → H' e = some (.xd [("at", .int (i : Nat))]) → Kp [] H H' → E (.ref BW) (some e) H')
section
variable {P : Program} {w : World} {K : PySem.W.Frag} {mg : Str → Option Value} {base : Heap} {tL t1 t2 : Tok}
theorem okd_Web_init {f : Addr} {fd : FuncData} (F : Fun K "__init__" "Web.__init__" s_Web_init f fd) (T : BtW mg t1) {WC TL BW fT fC : Addr} {fdT fdC : FuncData} (C : WbC K mg WC) (E_TooLarge : Er1 P w K mg base "TooLarge" "bound" TL fT fdT ["self", "bound"] SmallI) (E_BadWeb : Er1 P w K mg base "BadWeb" "at" BW fC fdC ["self", "at"] SmallI)
    {fm : Addr} {fdm : FuncData} (D_are_moves : Df K mg "are_moves" s_are_moves ["row", "many"] fm fdm) (G_are_moves : FnOk P w K mg base CX0 4 fm fdm ["row", "many"] spMovesD)
    {fs : Addr} {fds : FuncData} (D_is_visible : Df K mg "is_visible" s_is_visible ["deed"] fs fds) (G_is_visible : FnOk P w K mg base CX0 1 fs fds ["deed"] spVis) : FnOk P w K mg base (L2.CX P w) 5 f fd ["self", "rows"] (spWID WC TL BW) := by
  refine F.okX sc_Web_init (fun vs H Q E h => ?_) (fun cdv A outer s H vs Q E hr h => ?_)
  · obtain ⟨o, dx, a, us, rows, rfl, _⟩ := h
    rfl
  · obtain ⟨o, dx, a, us, dss, rfl, ho, ha, husD, l5, hsz, qG, qT, qB⟩ := h
    refine ⟨_, (pss_cons (ps_if (pt_not (pt_chain op_le op_le pe_int (pe_callB (id := "len") (r := Evl.rLenS K) call_len_seq (by rfl) T.b_len PySem.boot_len (pa_cons (pv 1) pa_nil)) (pe_glob (v := .int 4000) rfl T.c_MOST_STANDINGS ⟨_, rfl⟩))) (pss_one (ps_raise rfl (takes_of rfl rfl rfl rfl) (pmk_oex E_TooLarge.ox E_TooLarge.ic E_TooLarge.ti E_TooLarge.G (hr.mono (by decide)) E_TooLarge.b .nil passL rfl E_TooLarge.k (pa_cons (pe_glob (v := .int 4000) rfl T.c_MOST_STANDINGS ⟨_, rfl⟩) pa_nil)))) pss_nil)
      (pss_cons (ps_for (passes_of rfl) rfl (pi_enum rfl T.b_enumerate (pa_cons (pv 1) pa_nil)) (pg_tup (n := 2) (by rfl) (pgs_cons (pg_name (i := 2) sc_Web_init.nd rfl (Or.inl rfl)) (pgs_cons (pg_name (i := 3) sc_Web_init.nd rfl (Or.inl rfl)) pgs_nil))) (pss_one (ps_if (pt_not (pt_val (pe_call G_are_moves (hr.mono (by decide)) rfl D_are_moves.g D_are_moves.F.kp D_are_moves.b .nil pass0 (pa_cons (pv 3) (pa_cons (pe_callB (id := "len") (r := Evl.rLenS K) call_len_seq (by rfl) T.b_len PySem.boot_len (pa_cons (pv 1) pa_nil)) pa_nil))))) (pss_one (ps_raise rfl (takes_of rfl rfl rfl rfl) (pmk_oex E_BadWeb.ox E_BadWeb.ic E_BadWeb.ti E_BadWeb.G (hr.mono (by decide)) E_BadWeb.b .nil passL rfl E_BadWeb.k (pa_cons (pv 2) pa_nil)))) pss_nil)))
      (pss_cons (ps_fld (pv 0) (pe_lc (own := [("row", 3)]) (g := (gName 3)) (tt := tYes) rfl sc_Web_init.nd (pi_list (pv 1)) (blkOk_by (N := ["self", "rows", "at", "row", "deed", "goal"]) (sc := defScope s_Web_init) (by decide +kernel)) (fun _ _ _ _ _ => (pg_name (i := 3) sc_Web_init.nd rfl (Or.inl rfl))) (fun _ _ _ _ _ => pts_nil) (fun _ _ _ _ _ => (pe_callB (id := "sorted") (r := rSortedM K) (cr_sortedM (hu6 hr)) (by rfl) T.b_sorted (by decide +kernel) (pa_cons (pe_callTy (T := "list") (r := rLstOf K) call_list_of (by rfl) T.b_list (by decide +kernel) (pa_cons (pv 3) pa_nil)) pa_nil)))) rfl)
      (pss_cons (ps_fld (pv 0) (pe_lc (own := [("row", 3)]) (g := (gName 3)) (tt := tYes) rfl sc_Web_init.nd (pi_list (pe_fld (pv 0) rfl)) (blkOk_by (N := ["self", "rows", "at", "row", "deed", "goal"]) (sc := defScope s_Web_init) (by decide +kernel)) (fun _ _ _ _ _ => (pg_name (i := 3) sc_Web_init.nd rfl (Or.inl rfl))) (fun _ _ _ _ _ => pts_nil) (fun _ _ _ _ _ => (pe_dcT (own := [("deed", 4), ("goal", 5)]) (g := (gTup K 2 (gCons (gName 4) (gCons (gName 5) gNil)))) (tt := tYes) (hu_of hr) rfl sc_Web_init.nd ((pi_list (pv 3)) : PI _ _ _ (iList K _)) (blkOk_by (N := ["self", "rows", "at", "row", "deed", "goal"]) (sc := { kind := .function, names := [(".0", .local), ("row", .local)], isGenerator := false, isCoroutine := false }) (by decide +kernel)) (fun _ _ _ _ _ => (pg_tup (n := 2) (by rfl) (pgs_cons (pg_name (i := 4) sc_Web_init.nd rfl (Or.inl rfl)) (pgs_cons (pg_name (i := 5) sc_Web_init.nd rfl (Or.inl rfl)) pgs_nil)))) (fun _ _ _ _ _ => pts_nil) (fun _ _ _ _ _ => (pv 4)) (fun _ _ _ _ _ => (pv 5))))) rfl)
      (pss_one (ps_fld (pv 0) (pe_lc (own := [("row", 3)]) (g := (gName 3)) (tt := tYes) rfl sc_Web_init.nd (pi_list (pe_fld (pv 0) rfl)) (blkOk_by (N := ["self", "rows", "at", "row", "deed", "goal"]) (sc := defScope s_Web_init) (by decide +kernel)) (fun _ _ _ _ _ => (pg_name (i := 3) sc_Web_init.nd rfl (Or.inl rfl))) (fun _ _ _ _ _ => pts_nil) (fun _ _ _ _ _ => (pe_lc (own := [("deed", 4), ("goal", 5)]) (g := (gTup K 2 (gCons (gName 4) (gCons (gName 5) gNil)))) rfl sc_Web_init.nd ((pi_list (pv 3)) : PI _ _ _ (iList K _)) (blkOk_by (N := ["self", "rows", "at", "row", "deed", "goal"]) (sc := { kind := .function, names := [(".0", .local), ("row", .local)], isGenerator := false, isCoroutine := false }) (by decide +kernel)) (fun _ _ _ _ _ => (pg_tup (n := 2) (by rfl) (pgs_cons (pg_name (i := 4) sc_Web_init.nd rfl (Or.inl rfl)) (pgs_cons (pg_name (i := 5) sc_Web_init.nd rfl (Or.inl rfl)) pgs_nil)))) (fun _ _ _ _ _ => (pts_one (pt_not (pt_val (pe_call G_is_visible (hr.mono (by decide)) rfl D_is_visible.g D_is_visible.F.kp D_is_visible.b .nil pass0 (pa_cons (pv 4) pa_nil)))))) (fun _ _ _ _ _ => (pv 5))))) rfl)))))), ?_⟩
    try simp (maxSteps := 1000000) only [tSeq, tIfS, tTest, tOp, tUn, tCB, tCons, tNil, tVar, tC, rI0, rI, rU, rEq, rNe, tRet, tRetN, tAsg, gName, gSub, tBM, tBM0, tNext, tB, tNot, tAnd, tOr, tIf, tCall, tDrop, tBreak, tCont, L2.start, tDGet, sDPut, tTup, tLst, tDNewK, tRevL, rCat, rAppend, rPop, rSetL, tAndV, tOrV, tNotV, tSl, tPart, tNoPart, tM1, gTup, gCons, gNil, cxK, cxnK, List.map_cons, List.map_nil, List.length_cons, List.length_nil, List.replicate, List.cons_append, List.nil_append, List.append_nil, List.set_cons_zero, List.set_cons_succ, List.getElem?_cons_zero, List.getElem?_cons_succ, Option.some.injEq, V.ref.injEq, V.int.injEq, V.str.injEq, V.bl.injEq, V.ty.injEq, exists_eq_left', exists_eq_left, exists_and_left, List.cons.injEq, and_true, true_and, sc_ii, sc_ss, sc_bb, sc_ni, sc_in, sc_is, sc_si, sc_nn, decide_true, decide_false, reduceCtorEq, Bool.false_eq_true, if_true, if_false, ite_true, ite_false, exists_const, eq_self, false_and, and_false, or_false, false_or, exists_false, Evl.rLenS, rSum, wipe, tYes, exists_eq, exists_eq', rIxL, rIxT, rIxS, exists_and_right, gt_iff_lt, not_true_eq_false, not_false_eq_true, Bool.not_true, Bool.not_false, decide_eq_true_eq, Nat.reduceSub, Nat.reduceAdd, List.append_assoc, tChain, tDIn, tDNotIn, sDDel, tAug, ipI, rInt1_int, rInt1_bl, tFld, sFld]
    refine ⟨us, .inl (sq_l ha), ?_⟩
    rw [husD.len]
    have errL : ¬ (1 ≤ dss.length ∧ dss.length ≤ 4000) → tMkO TL (spErr1 TL (Str.ofString "bound") SmallI) [] (tCons (tC (V.int 4000)) tNil) [some (V.ref o), some (V.ref a), none, none, none, none] H fun cls d H' => E cls d H' := fun h =>
      err1_made (P := SmallI) ⟨4000, rfl, by decide, by decide⟩ fun e H' ne he k => qT h e H' ne he k
    by_cases h1 : 1 ≤ dss.length
    · rw [if_pos (by omega)]
      by_cases h2 : dss.length ≤ 4000
      · rw [decide_eq_true (show ((dss.length : Nat) : Int) ≤ 4000 by omega)]
        try simp (maxSteps := 1000000) only [tSeq, tIfS, tTest, tOp, tUn, tCB, tCons, tNil, tVar, tC, rI0, rI, rU, rEq, rNe, tRet, tRetN, tAsg, gName, gSub, tBM, tBM0, tNext, tB, tNot, tAnd, tOr, tIf, tCall, tDrop, tBreak, tCont, L2.start, tDGet, sDPut, tTup, tLst, tDNewK, tRevL, rCat, rAppend, rPop, rSetL, tAndV, tOrV, tNotV, tSl, tPart, tNoPart, tM1, gTup, gCons, gNil, cxK, cxnK, List.map_cons, List.map_nil, List.length_cons, List.length_nil, List.replicate, List.cons_append, List.nil_append, List.append_nil, List.set_cons_zero, List.set_cons_succ, List.getElem?_cons_zero, List.getElem?_cons_succ, Option.some.injEq, V.ref.injEq, V.int.injEq, V.str.injEq, V.bl.injEq, V.ty.injEq, exists_eq_left', exists_eq_left, exists_and_left, List.cons.injEq, and_true, true_and, sc_ii, sc_ss, sc_bb, sc_ni, sc_in, sc_is, sc_si, sc_nn, decide_true, decide_false, reduceCtorEq, Bool.false_eq_true, if_true, if_false, ite_true, ite_false, exists_const, eq_self, false_and, and_false, or_false, false_or, exists_false, Evl.rLenS, rSum, wipe, tYes, exists_eq, exists_eq', rIxL, rIxT, rIxS, exists_and_right, gt_iff_lt, not_true_eq_false, not_false_eq_true, Bool.not_true, Bool.not_false, decide_eq_true_eq, Nat.reduceSub, Nat.reduceAdd, List.append_assoc, tChain, tDIn, tDNotIn, sDDel, tAug, ipI, rInt1_int, rInt1_bl]
        refine ⟨.ref a, rfl, a, us, rfl, sq_l ha, ?_⟩
        refine for_it (walk_enum (K := K) (a := a) (xs := us)) (fun i σ H' => ∃ c2 c3, σ = [some (V.ref o), some (V.ref a), c2, c3, none, none] ∧ Kp [] H H' ∧ ∀ j y, j < i → dss[j]? = some y → OkRw dss.length y) ⟨none, none, rfl, Kp.refl _ _, fun j y hj => absurd hj (Nat.not_lt_zero j)⟩ (fun i σ H' _ h => by obtain ⟨_, _, _, k, _⟩ := h; exact k.ls not0 (sq_l ha)) ?_ ?_
        · rintro i x σ H2 H3 hi ⟨e1, e2, rfl, kp, hok⟩ ⟨t, u, v, rfl, nt, rfl, ea, eb⟩
          cases ea
          obtain ⟨ds, es, hms⟩ := husD.get eb
          have k2 : Kp [] H2 (upd H2 t (.tup [.int (i : Nat), v])) := Kp.new nt
          have k02 := kp.trans k2
          try simp (maxSteps := 1000000) only [tSeq, tIfS, tTest, tOp, tUn, tCB, tCons, tNil, tVar, tC, rI0, rI, rU, rEq, rNe, tRet, tRetN, tAsg, gName, gSub, tBM, tBM0, tNext, tB, tNot, tAnd, tOr, tIf, tCall, tDrop, tBreak, tCont, L2.start, tDGet, sDPut, tTup, tLst, tDNewK, tRevL, rCat, rAppend, rPop, rSetL, tAndV, tOrV, tNotV, tSl, tPart, tNoPart, tM1, gTup, gCons, gNil, cxK, cxnK, List.map_cons, List.map_nil, List.length_cons, List.length_nil, List.replicate, List.cons_append, List.nil_append, List.append_nil, List.set_cons_zero, List.set_cons_succ, List.getElem?_cons_zero, List.getElem?_cons_succ, Option.some.injEq, V.ref.injEq, V.int.injEq, V.str.injEq, V.bl.injEq, V.ty.injEq, exists_eq_left', exists_eq_left, exists_and_left, List.cons.injEq, and_true, true_and, sc_ii, sc_ss, sc_bb, sc_ni, sc_in, sc_is, sc_si, sc_nn, decide_true, decide_false, reduceCtorEq, Bool.false_eq_true, if_true, if_false, ite_true, ite_false, exists_const, eq_self, false_and, and_false, or_false, false_or, exists_false, Evl.rLenS, rSum, wipe, tYes, exists_eq, exists_eq', rIxL, rIxT, rIxS, exists_and_right, gt_iff_lt, not_true_eq_false, not_false_eq_true, Bool.not_true, Bool.not_false, decide_eq_true_eq, Nat.reduceSub, Nat.reduceAdd, List.append_assoc, tChain, tDIn, tDNotIn, sDDel, tAug, ipI, rInt1_int, rInt1_bl]
          refine ⟨_, sq_t upd_same, rfl, _, _, rfl, _, _, rfl, rfl, ?_⟩
          obtain ⟨r, rs, rfl, hr2, hm2⟩ := hms.kp k02
          obtain ⟨sz, dl⟩ := hsz h1 h2 ds (List.mem_of_getElem? es)
          refine ⟨us, .inl (k02.ls not0 (sq_l ha)), r, rs, dss.length, ds, by rw [husD.len], hr2, hm2, sz, dl, fun ms em g H4 k4 => ⟨true, rfl, ?_⟩, fun hb H4 k4 => ⟨false, rfl, ?_⟩⟩
          · rw [if_neg (by decide)]
            refine ⟨k02.trans k4, fun j y hj ej => ?_⟩
            by_cases z : j = i
            · subst z; rw [es] at ej; cases ej; exact ⟨ms, em, g⟩
            · exact hok j y (by omega) ej
          · rw [if_pos (by decide)]
            exact ⟨.int (i : Nat), rfl, err1_made (P := SmallI) ⟨_, rfl, by omega, by have := (List.getElem?_eq_some_iff.mp es).1; omega⟩ fun x H' ne he k => qB i ds h1 h2 es hb hok x H' ((k02.trans k4).free0 ne) he ((k02.trans k4).trans k)⟩
        · rintro σ H2 ⟨e1, e2, rfl, kp, hok⟩
          rw [husD.len] at hok
          obtain ⟨rows, em0, hg⟩ := all_ok (n := dss.length) (rows := dss) fun y hy => by
            obtain ⟨j, ej⟩ := List.getElem?_of_mem hy
            exact hok j y (List.getElem?_eq_some_iff.mp ej).1 ej
          have hus : Rw (RwAt H) us rows := ⟨by rw [husD.len, em0, List.length_map], fun {i u} e => by
            obtain ⟨g, eg, hg⟩ := husD.get e
            rw [em0, List.getElem?_map] at eg
            obtain ⟨ms, es, rfl⟩ := Option.map_eq_some_iff.mp eg
            exact ⟨ms, es, hg.at_⟩⟩
          have lr : dss.length = rows.length := by rw [em0, List.length_map]
          rw [lr] at hg
          have l2 : rows.length ≤ 4000 := by omega
          try simp (maxSteps := 1000000) only [tSeq, tIfS, tTest, tOp, tUn, tCB, tCons, tNil, tVar, tC, rI0, rI, rU, rEq, rNe, tRet, tRetN, tAsg, gName, gSub, tBM, tBM0, tNext, tB, tNot, tAnd, tOr, tIf, tCall, tDrop, tBreak, tCont, L2.start, tDGet, sDPut, tTup, tLst, tDNewK, tRevL, rCat, rAppend, rPop, rSetL, tAndV, tOrV, tNotV, tSl, tPart, tNoPart, tM1, gTup, gCons, gNil, cxK, cxnK, List.map_cons, List.map_nil, List.length_cons, List.length_nil, List.replicate, List.cons_append, List.nil_append, List.append_nil, List.set_cons_zero, List.set_cons_succ, List.getElem?_cons_zero, List.getElem?_cons_succ, Option.some.injEq, V.ref.injEq, V.int.injEq, V.str.injEq, V.bl.injEq, V.ty.injEq, exists_eq_left', exists_eq_left, exists_and_left, List.cons.injEq, and_true, true_and, sc_ii, sc_ss, sc_bb, sc_ni, sc_in, sc_is, sc_si, sc_nn, decide_true, decide_false, reduceCtorEq, Bool.false_eq_true, if_true, if_false, ite_true, ite_false, exists_const, eq_self, false_and, and_false, or_false, false_or, exists_false, Evl.rLenS, rSum, wipe, tYes, exists_eq, exists_eq', rIxL, rIxT, rIxS, exists_and_right, gt_iff_lt, not_true_eq_false, not_false_eq_true, Bool.not_true, Bool.not_false, decide_eq_true_eq, Nat.reduceSub, Nat.reduceAdd, List.append_assoc, tChain, tDIn, tDNotIn, sDDel, tAug, ipI, rInt1_int, rInt1_bl, sFld, tFld]
          have ho2 := kp _ _ not0 ho
          have hus2 : Rw (RwAt H2) us rows := hus.mono fun _ _ z => z.kd kp.kd
          have gP : ∀ rs : List (List Mv), (∀ r ∈ rs, GoodRw rows.length r) → rs.length = rows.length → True := fun _ _ _ => True.intro
          refine lcK (R := RwAt) (R2 := fun D G v x => SrtAt D G v x ∧ FrD H v) (fun _ _ _ _ k z => z.kd k.kd) (fun _ _ _ _ _ _ hD k z => ⟨z.1.kp hD k, z.2⟩) (fun R r => ⟨.ref a, rfl, r⟩) (kp.ls not0 (sq_l ha)) hus2 (by omega) (show 3 < 6 by decide) (fun D v ms H' Q' hm hv k' hD q' => w_elt1 (hg ms hm) hv hD fun p H2 np h1 h2 => q' _ _ ⟨h1, p, rfl, (kp.trans k').free0 np⟩ h2) ?_
          intro D1 ws H3 nD1 hD1 hws k3
          obtain ⟨hws, fu⟩ := rwFr hws
          obtain ⟨srs, hsr, hw⟩ := srt_split hws
          have gs : ∀ r ∈ srs, GoodRw rows.length r := fun r hr2 => by
            obtain ⟨i, ei⟩ := List.getElem?_of_mem hr2
            have li : i < rows.length := by
              have := (List.getElem?_eq_some_iff.mp ei).1
              rw [hsr.len] at this; exact this
            obtain ⟨s, es, p⟩ := hsr.at_ (List.getElem?_eq_getElem li)
            obtain rfl : r = s := Option.some.inj (ei.symm.trans es)
            exact (hg _ (List.getElem_mem li)).perm p.1
          have ls : srs.length = rows.length := hsr.len
          have ho3 := k3 _ _ not0 ho2
          refine ⟨WC, dx, _, ho3, C.cl, C.n1, (show 0 < 1000 by decide), ?_⟩
          have kd3 := Kd.putI (u := .ins WC dx (putF "_rows" (.ref D1) [])) ho3
          have ho4 : (upd H3 o (.ins WC dx (putF "_rows" (.ref D1) []))) o = some (.ins WC dx [("_rows", .ref D1)]) := by rw [upd_same]; rfl
          generalize eG : upd H3 o (.ins WC dx (putF "_rows" (.ref D1) [])) = H4 at kd3 ho4
          have hD4 := kd3 _ (.lst ws) True.intro hD1
          have kH4 : Kp [o] H H4 := by subst eG; exact (kp.of0.trans k3.of0).put (by simp)
          have fr4 : ∀ p, H4 p = none → H p = none := fun p np => kH4.free np fun a ha => by rw [List.mem_singleton.mp ha]; exact ⟨_, ho4⟩
          have hw4 : Rw (RwAt H4) ws srs := hw.mono fun _ _ z => z.kd kd3
          refine lcK (R := RwAt) (R2 := fun _ G v x => GlAt G v x ∧ FrD H v) (fun _ _ _ _ k z => z.kd k.kd) (fun _ _ _ _ _ _ hD k z => ⟨z.1.kp hD k, z.2⟩) (fun R r => ?_) (sq_l hD4) hw4 (by omega) (show 3 < 6 by decide) (fun D v ms H' Q' hm hv k' hD q' => w_elt2 (gs ms hm) hv fun p H2 np h1 h2 => q' _ _ ⟨h1, p, rfl, fr4 p (k'.free0 np)⟩ h2) ?_
          · try simp (maxSteps := 1000000) only [tSeq, tIfS, tTest, tOp, tUn, tCB, tCons, tNil, tVar, tC, rI0, rI, rU, rEq, rNe, tRet, tRetN, tAsg, gName, gSub, tBM, tBM0, tNext, tB, tNot, tAnd, tOr, tIf, tCall, tDrop, tBreak, tCont, L2.start, tDGet, sDPut, tTup, tLst, tDNewK, tRevL, rCat, rAppend, rPop, rSetL, tAndV, tOrV, tNotV, tSl, tPart, tNoPart, tM1, gTup, gCons, gNil, cxK, cxnK, List.map_cons, List.map_nil, List.length_cons, List.length_nil, List.replicate, List.cons_append, List.nil_append, List.append_nil, List.set_cons_zero, List.set_cons_succ, List.getElem?_cons_zero, List.getElem?_cons_succ, Option.some.injEq, V.ref.injEq, V.int.injEq, V.str.injEq, V.bl.injEq, V.ty.injEq, exists_eq_left', exists_eq_left, exists_and_left, List.cons.injEq, and_true, true_and, sc_ii, sc_ss, sc_bb, sc_ni, sc_in, sc_is, sc_si, sc_nn, decide_true, decide_false, reduceCtorEq, Bool.false_eq_true, if_true, if_false, ite_true, ite_false, exists_const, eq_self, false_and, and_false, or_false, false_or, exists_false, Evl.rLenS, rSum, wipe, tYes, exists_eq, exists_eq', rIxL, rIxT, rIxS, exists_and_right, gt_iff_lt, not_true_eq_false, not_false_eq_true, Bool.not_true, Bool.not_false, decide_eq_true_eq, Nat.reduceSub, Nat.reduceAdd, List.append_assoc, tChain, tDIn, tDNotIn, sDDel, tAug, ipI, rInt1_int, rInt1_bl, tFld]
            exact ⟨WC, dx, _, ho4, C.cl, C.n1, .ref D1, rfl, r⟩
          intro D2 gl H5 nD2 hD2 hgl k5
          obtain ⟨hgl, fg⟩ := rwFr hgl
          have ho5 := k5 _ _ not0 ho4
          refine ⟨WC, dx, _, ho5, C.cl, C.n2, (show 1 < 1000 by decide), ?_⟩
          have kd5 := Kd.putI (u := .ins WC dx (putF "_goals" (.ref D2) [("_rows", .ref D1)])) ho5
          have ho6 : (upd H5 o (.ins WC dx (putF "_goals" (.ref D2) [("_rows", .ref D1)]))) o = some (.ins WC dx [("_rows", .ref D1), ("_goals", .ref D2)]) := by rw [upd_same]; rfl
          generalize eG2 : upd H5 o (.ins WC dx (putF "_goals" (.ref D2) [("_rows", .ref D1)])) = H6 at kd5 ho6
          have kH6 : Kp [o] H H6 := by subst eG2; exact (kH4.trans k5.of0).put (by simp)
          have fr6 : ∀ p, H6 p = none → H p = none := fun p np => kH6.free np fun a ha => by rw [List.mem_singleton.mp ha]; exact ⟨_, ho6⟩
          have hD16 := kd5 _ (.lst ws) True.intro (k5 _ _ not0 hD4)
          have hD26 := kd5 _ (.lst gl) True.intro hD2
          have hw6 : Rw (RwAt H6) ws srs := hw4.mono fun _ _ z => z.kd (k5.kd.trans kd5)
          have hgl6 : Rw (GlAt H6) gl srs := hgl.mono fun _ _ z => z.kd kd5
          refine lcK (R := RwAt) (R2 := fun D G v x => HdAtD D G v x ∧ FrD H v) (fun _ _ _ _ k z => z.kd k.kd) (fun _ _ _ _ _ _ hD k z => ⟨z.1.kp hD k, z.2⟩) (fun R r => ?_) (sq_l hD16) hw6 (by omega) (show 3 < 6 by decide) (fun D v ms H' Q' hm hv k' hD q' => w_elt3 (gs ms hm) hv hD fun p H2 np h1 h2 => q' _ _ ⟨h1, p, rfl, fr6 p (k'.free0 np)⟩ h2) ?_
          · try simp (maxSteps := 1000000) only [tSeq, tIfS, tTest, tOp, tUn, tCB, tCons, tNil, tVar, tC, rI0, rI, rU, rEq, rNe, tRet, tRetN, tAsg, gName, gSub, tBM, tBM0, tNext, tB, tNot, tAnd, tOr, tIf, tCall, tDrop, tBreak, tCont, L2.start, tDGet, sDPut, tTup, tLst, tDNewK, tRevL, rCat, rAppend, rPop, rSetL, tAndV, tOrV, tNotV, tSl, tPart, tNoPart, tM1, gTup, gCons, gNil, cxK, cxnK, List.map_cons, List.map_nil, List.length_cons, List.length_nil, List.replicate, List.cons_append, List.nil_append, List.append_nil, List.set_cons_zero, List.set_cons_succ, List.getElem?_cons_zero, List.getElem?_cons_succ, Option.some.injEq, V.ref.injEq, V.int.injEq, V.str.injEq, V.bl.injEq, V.ty.injEq, exists_eq_left', exists_eq_left, exists_and_left, List.cons.injEq, and_true, true_and, sc_ii, sc_ss, sc_bb, sc_ni, sc_in, sc_is, sc_si, sc_nn, decide_true, decide_false, reduceCtorEq, Bool.false_eq_true, if_true, if_false, ite_true, ite_false, exists_const, eq_self, false_and, and_false, or_false, false_or, exists_false, Evl.rLenS, rSum, wipe, tYes, exists_eq, exists_eq', rIxL, rIxT, rIxS, exists_and_right, gt_iff_lt, not_true_eq_false, not_false_eq_true, Bool.not_true, Bool.not_false, decide_eq_true_eq, Nat.reduceSub, Nat.reduceAdd, List.append_assoc, tChain, tDIn, tDNotIn, sDDel, tAug, ipI, rInt1_int, rInt1_bl, tFld]
            exact ⟨WC, dx, _, ho6, C.cl, C.n1, .ref D1, rfl, r⟩
          intro D3 hd H7 nD3 hD3 hhd k7
          obtain ⟨hhd, fh⟩ := rwFr hhd
          have ho7 := k7 _ _ not0 ho6
          refine ⟨WC, dx, _, ho7, C.cl, C.n3, (show 2 < 1000 by decide), ?_⟩
          have kd7 := Kd.putI (u := .ins WC dx (putF "_hidden" (.ref D3) [("_rows", .ref D1), ("_goals", .ref D2)])) ho7
          have k67 := k7.kd.trans kd7
          have hoF : (upd H7 o (.ins WC dx (putF "_hidden" (.ref D3) [("_rows", .ref D1), ("_goals", .ref D2)]))) o = some (.ins WC dx [("_rows", .ref D1), ("_goals", .ref D2), ("_hidden", .ref D3)]) := by rw [upd_same]; rfl
          have kF : Kp [o] H (upd H7 o (.ins WC dx (putF "_hidden" (.ref D3) [("_rows", .ref D1), ("_goals", .ref D2)]))) := (kH6.trans k7.of0).put (by simp)
          generalize upd H7 o (.ins WC dx (putF "_hidden" (.ref D3) [("_rows", .ref D1), ("_goals", .ref D2)])) = F at kd7 k67 hoF kF ⊢
          have w1 := k67 _ (.lst ws) True.intro hD16
          have w2 := k67 _ (.lst gl) True.intro hD26
          have w3 := kd7 _ (.lst hd) True.intro hD3
          have r1 : Rw (RwAt F) ws srs := hw6.mono fun _ _ z => z.kd k67
          have r2 : Rw (GlAt F) gl srs := hgl6.mono fun _ _ z => z.kd k67
          have r3 : Rw (HdAt F) hd srs := hhd.mono fun v ms z => by
            obtain ⟨x, e, _, hx⟩ := z
            exact HdAt.kd (H := H7) ⟨x, e, hx⟩ kd7
          refine qG rows srs F h1 h2 em0 (by rw [lr]; exact hg) hsr ⟨dx, D1, D2, D3, ws, gl, hd, hoF, w1, r1, w2, r2, w3, r3⟩ (fun S H2 hS k2 => ?_) kF
          exact web_fr ho kF hS k2 hoF (kp.free0 nD1) (fr4 _ nD2) (fr6 _ nD3) w1 r1 w2 r2 w3 r3 fu fg fh
      · rw [decide_eq_false (show ¬ ((dss.length : Nat) : Int) ≤ 4000 by omega)]
        try simp (maxSteps := 1000000) only [tSeq, tIfS, tTest, tOp, tUn, tCB, tCons, tNil, tVar, tC, rI0, rI, rU, rEq, rNe, tRet, tRetN, tAsg, gName, gSub, tBM, tBM0, tNext, tB, tNot, tAnd, tOr, tIf, tCall, tDrop, tBreak, tCont, L2.start, tDGet, sDPut, tTup, tLst, tDNewK, tRevL, rCat, rAppend, rPop, rSetL, tAndV, tOrV, tNotV, tSl, tPart, tNoPart, tM1, gTup, gCons, gNil, cxK, cxnK, List.map_cons, List.map_nil, List.length_cons, List.length_nil, List.replicate, List.cons_append, List.nil_append, List.append_nil, List.set_cons_zero, List.set_cons_succ, List.getElem?_cons_zero, List.getElem?_cons_succ, Option.some.injEq, V.ref.injEq, V.int.injEq, V.str.injEq, V.bl.injEq, V.ty.injEq, exists_eq_left', exists_eq_left, exists_and_left, List.cons.injEq, and_true, true_and, sc_ii, sc_ss, sc_bb, sc_ni, sc_in, sc_is, sc_si, sc_nn, decide_true, decide_false, reduceCtorEq, Bool.false_eq_true, if_true, if_false, ite_true, ite_false, exists_const, eq_self, false_and, and_false, or_false, false_or, exists_false, Evl.rLenS, rSum, wipe, tYes, exists_eq, exists_eq', rIxL, rIxT, rIxS, exists_and_right, gt_iff_lt, not_true_eq_false, not_false_eq_true, Bool.not_true, Bool.not_false, decide_eq_true_eq, Nat.reduceSub, Nat.reduceAdd, List.append_assoc, tChain, tDIn, tDNotIn, sDDel, tAug, ipI, rInt1_int, rInt1_bl]
        exact errL (fun h => h2 h.2)
    · rw [if_neg (by omega)]
      exact errL (fun h => h1 h.1)
end
end My

set_option Elab.async false
set_option linter.all false
set_option maxRecDepth 100000
set_option maxHeartbeats 4000000
namespace My
open PySem L2 NdefX
abbrev s_Web_check : Stmt := mtop 15 7
theorem sc_Web_check : FnScope ["self", "at"] ["self", "at"] (defScope s_Web_check) := ⟨rfl, rfl, rfl, by decide +kernel, rfl, by decide +kernel, by decide +kernel⟩
abbrev s_Web_reached : Stmt := mtop 15 9
theorem sc_Web_reached : FnScope ["self", "stands", "seen", "waiting", "at"] ["self", "stands"] (defScope s_Web_reached) := ⟨rfl, rfl, rfl, by decide +kernel, rfl, by decide +kernel, by decide +kernel⟩
abbrev s_Web_joint_replies : Stmt := mtop 15 8
theorem sc_Web_joint_replies : FnScope ["self", "stands", "deed", "rows", "at", "row"] ["self", "stands", "deed"] (defScope s_Web_joint_replies) := ⟨rfl, rfl, rfl, by decide +kernel, rfl, by decide +kernel, by decide +kernel⟩
abbrev s_Web_replies : Stmt := mtop 15 6
theorem sc_Web_replies : FnScope ["self", "at", "deed"] ["self", "at", "deed"] (defScope s_Web_replies) := ⟨rfl, rfl, rfl, by decide +kernel, rfl, by decide +kernel, by decide +kernel⟩
/-! ### what can be reached unseen -/
def Hs (rows : List (List Mv)) (a b : Int) : Prop := ∃ r m, 0 ≤ a ∧ rows[a.toNat]? = some r ∧ m ∈ r ∧ visB m.1 = false ∧ m.2 = b
inductive Rch (rows : List (List Mv)) (k : Int) : Int → Prop
  | base : Rch rows k k
  | step {a b : Int} : Rch rows k a → Hs rows a b → Rch rows k b
theorem Rch.closed {rows : List (List Mv)} {k : Int} {S : Int → Prop} (h0 : S k) (hs : ∀ a b, S a → Hs rows a b → S b) {x : Int} (h : Rch rows k x) : S x := by
  induction h with
  | base => exact h0
  | step _ e ih => exact hs _ _ ih e
theorem Rch.bnd {rows : List (List Mv)} {k : Int} (hg : ∀ r ∈ rows, GoodRw rows.length r) (k0 : 0 ≤ k) (k1 : k < rows.length) {x : Int} (h : Rch rows k x) : 0 ≤ x ∧ x < rows.length :=
  Rch.closed (S := fun x => 0 ≤ x ∧ x < rows.length) ⟨k0, k1⟩ (fun a b _ e => by
    obtain ⟨r, m, _, er, hm, _, rfl⟩ := e
    exact (hg r (List.mem_of_getElem? er)).goal m hm) h
theorem nodup_len : ∀ {n : Nat} {l : List Int}, l.Nodup → (∀ x ∈ l, 0 ≤ x ∧ x < n) → l.length ≤ n
  | 0, l, _, h => by
    cases l with
    | nil => exact Nat.le_refl _
    | cons x r => have := h x (by simp); omega
  | n + 1, l, nd, h => by
    have ih := nodup_len (n := n) (l := l.erase (n : Nat)) (nd.erase _) (fun x hx => by
      obtain ⟨a, b⟩ := nd.mem_erase_iff.mp hx
      have := h x b
      omega)
    have := List.length_erase (a := ((n : Nat) : Int)) (l := l)
    split at this <;> omega
theorem hidM_mem {ms : List Mv} {y : Int} : y ∈ hidM ms ↔ ∃ m ∈ ms, visB m.1 = false ∧ m.2 = y := by
  unfold hidM
  rw [List.mem_map]
  constructor
  · rintro ⟨m, hm, e⟩
    obtain ⟨h1, h2⟩ := List.mem_filter.mp hm
    exact ⟨m, h1, by simpa using h2, e⟩
  · rintro ⟨m, h1, h2, e⟩
    exact ⟨m, List.mem_filter.mpr ⟨h1, by simpa using h2⟩, e⟩
theorem hidM_len {n : Nat} {ms : List Mv} (h : GoodRw n ms) : (hidM ms).length ≤ 100 := by
  unfold hidM
  rw [List.length_map]
  exact Nat.le_trans (List.length_filter_le _ _) h.len
structure RdI (srs : List (List Mv)) (k : Int) (ss wt : List Int) : Prop where
  nd : ss.Nodup
  rs : ∀ x ∈ ss, Rch srs k x
  rw_ : ∀ x ∈ wt, Rch srs k x
  k_ : k ∈ ss ∨ k ∈ wt
  cl : ∀ x ∈ ss, ∀ y, Hs srs x y → y ∈ ss ∨ y ∈ wt
  len : wt.length ≤ 100 * ss.length + 1
theorem RdI.seen {srs : List (List Mv)} {k : Int} {ss wi : List Int} {x : Int} (h : RdI srs k ss (wi ++ [x])) (hx : x ∈ ss) : RdI srs k ss wi := by
  have o : ∀ y, (y ∈ ss ∨ y ∈ wi ++ [x]) → y ∈ ss ∨ y ∈ wi := fun y hy => by
    rcases hy with hy | hy
    · exact .inl hy
    · rcases List.mem_append.mp hy with hy | hy
      · exact .inr hy
      · rw [List.mem_singleton.mp hy]; exact .inl hx
  have := h.len
  rw [List.length_append, List.length_singleton] at this
  exact ⟨h.nd, h.rs, fun y hy => h.rw_ y (List.mem_append_left _ hy), o _ h.k_, fun a ha y e => o _ (h.cl a ha y e), by omega⟩
theorem RdI.new {srs : List (List Mv)} {k : Int} {ss wi : List Int} {x : Int} {ms : List Mv} {n : Nat} (h : RdI srs k ss (wi ++ [x])) (hx : x ∉ ss) (x0 : 0 ≤ x) (em : srs[x.toNat]? = some ms) (hg : GoodRw n ms) : RdI srs k (ss ++ [x]) (wi ++ hidM ms) := by
  have rx : Rch srs k x := h.rw_ x (by simp)
  have o : ∀ y, (y ∈ ss ∨ y ∈ wi ++ [x]) → y ∈ ss ++ [x] ∨ y ∈ wi ++ hidM ms := fun y hy => by
    rcases hy with hy | hy
    · exact .inl (List.mem_append_left _ hy)
    · rcases List.mem_append.mp hy with hy | hy
      · exact .inr (List.mem_append_left _ hy)
      · exact .inl (List.mem_append_right _ hy)
  have l1 := h.len
  have l2 := hidM_len hg
  rw [List.length_append, List.length_singleton] at l1
  refine ⟨?_, fun y hy => ?_, fun y hy => ?_, o _ h.k_, fun a ha y e => ?_, by rw [List.length_append, List.length_append, List.length_singleton]; omega⟩
  · rw [List.nodup_append]
    refine ⟨h.nd, by simp, fun a ha b hb => ?_⟩
    rw [List.mem_singleton.mp hb]
    exact fun z => hx (z ▸ ha)
  · rcases List.mem_append.mp hy with hy | hy
    · exact h.rs y hy
    · rw [List.mem_singleton.mp hy]; exact rx
  · rcases List.mem_append.mp hy with hy | hy
    · exact h.rw_ y (List.mem_append_left _ hy)
    · obtain ⟨m, hm, v, e⟩ := hidM_mem.mp hy
      exact .step rx ⟨ms, m, x0, em, hm, v, e⟩
  · rcases List.mem_append.mp ha with ha | ha
    · exact o _ (h.cl a ha y e)
    · rw [List.mem_singleton.mp ha] at e
      obtain ⟨r, m, _, er, hm, v, e⟩ := e
      obtain rfl : ms = r := Option.some.inj (em.symm.trans er)
      exact .inr (List.mem_append_right _ (hidM_mem.mpr ⟨m, hm, v, e⟩))
theorem RdI.done {srs : List (List Mv)} {k : Int} {ss : List Int} (h : RdI srs k ss []) (x : Int) : x ∈ ss ↔ Rch srs k x :=
  ⟨h.rs x, Rch.closed (S := fun x => x ∈ ss) (h.k_.elim id fun z => nomatch z) fun a b ha e => (h.cl a ha b e).elim id fun z => nomatch z⟩
def spReach (WC : Addr) : Sp := fun vs H Q _ => ∃ (o a : Addr) (k : Int) (srs : List (List Mv)), vs = [.ref o, .ref a] ∧ WebAt WC H o srs ∧ H a = some (.lst [.int k]) ∧ 0 ≤ k ∧ k < srs.length ∧ srs.length ≤ 100 ∧ (∀ r ∈ srs, GoodRw srs.length r) ∧
  ∀ (ns : List Int) (l : Addr) (H' : Hp), ns.Nodup → (∀ x, x ∈ ns ↔ Rch srs k x) → H l = none → H' l = some (.lst (ns.map V.int)) → Kp [] H H' → Q (.ref l) H'
section
variable {P : Program} {w : World} {K : PySem.W.Frag} {mg : Str → Option Value} {base : Heap} {tL t1 t2 : Tok}
def spCheck (WC NS : Addr) : Sp := fun vs H Q E => ∃ (o : Addr) (v : V) (d : PyData) (srs : List (List Mv)), vs = [.ref o, v] ∧ WebAt WC H o srs ∧ Dq H v d ∧ (belowD (srs.length : Nat) d = true → Q .non H) ∧
  (belowD (srs.length : Nat) d = false → ∀ (e : Addr) (H' : Hp), H e = none → H' e = some (.xd [("at", v)]) → Kp [] H H' → E (.ref NS) (some e) H')
theorem ok_Web_check {f : Addr} {fd : FuncData} (F : Fun K "check" "Web.check" s_Web_check f fd) (T : BtW mg t1) {WC NS fN : Addr} {fdN : FuncData} (C : WbC K mg WC) (E_NoStanding : Er1 P w K mg base "NoStanding" "at" NS fN fdN ["self", "at"] (fun _ => True))
    {fb : Addr} {fdb : FuncData} (D_is_below : Df K mg "is_below" s_is_below ["value", "bound"] fb fdb) (G_is_below : FnOk P w K mg base CX0 1 fb fdb ["value", "bound"] spBelow) : FnOk P w K mg base (L2.CX P w) 3 f fd ["self", "at"] (spCheck WC NS) := by
  refine F.okX sc_Web_check (fun vs H Q E h => ?_) (fun cdv A outer s H vs Q E hr h => ?_)
  · obtain ⟨o, v, d, srs, rfl, _⟩ := h
    rfl
  · obtain ⟨o, v, d, srs, rfl, ⟨dx, a, b, c, us, gs, hs, ho, ha, hus, hb, hgs, hc, hhs⟩, hd, qG, qB⟩ := h
    refine ⟨_, (pss_one (ps_if (pt_not (pt_val (pe_call G_is_below (hr.mono (by decide)) rfl D_is_below.g D_is_below.F.kp D_is_below.b .nil pass0 (pa_cons (pv 1) (pa_cons (pe_callB (id := "len") (r := Evl.rLenS K) call_len_seq (by rfl) T.b_len PySem.boot_len (pa_cons (pe_fld (pv 0) rfl) pa_nil)) pa_nil))))) (pss_one (ps_raise rfl (takes_of rfl rfl rfl rfl) (pmk_oex E_NoStanding.ox E_NoStanding.ic E_NoStanding.ti E_NoStanding.G (hr.mono (by decide)) E_NoStanding.b .nil passL rfl E_NoStanding.k (pa_cons (pv 1) pa_nil)))) pss_nil)), ?_⟩
    try simp (maxSteps := 1000000) only [tSeq, tIfS, tTest, tOp, tUn, tCB, tCons, tNil, tVar, tC, rI0, rI, rU, rEq, rNe, tRet, tRetN, tAsg, gName, gSub, tBM, tBM0, tNext, tB, tNot, tAnd, tOr, tIf, tCall, tDrop, tBreak, tCont, L2.start, tDGet, sDPut, tTup, tLst, tDNewK, tRevL, rCat, rAppend, rPop, rSetL, tAndV, tOrV, tNotV, tSl, tPart, tNoPart, tM1, gTup, gCons, gNil, cxK, cxnK, List.map_cons, List.map_nil, List.length_cons, List.length_nil, List.replicate, List.cons_append, List.nil_append, List.append_nil, List.set_cons_zero, List.set_cons_succ, List.getElem?_cons_zero, List.getElem?_cons_succ, Option.some.injEq, V.ref.injEq, V.int.injEq, V.str.injEq, V.bl.injEq, V.ty.injEq, exists_eq_left', exists_eq_left, exists_and_left, List.cons.injEq, and_true, true_and, sc_ii, sc_ss, sc_bb, sc_ni, sc_in, sc_is, sc_si, sc_nn, decide_true, decide_false, reduceCtorEq, Bool.false_eq_true, if_true, if_false, ite_true, ite_false, exists_const, eq_self, false_and, and_false, or_false, false_or, exists_false, Evl.rLenS, rSum, wipe, tYes, exists_eq, exists_eq', rIxL, rIxT, rIxS, exists_and_right, gt_iff_lt, not_true_eq_false, not_false_eq_true, Bool.not_true, Bool.not_false, decide_eq_true_eq, Nat.reduceSub, Nat.reduceAdd, List.append_assoc, tChain, tDIn, tDNotIn, sDDel, tAug, ipI, rInt1_int, rInt1_bl, tFld]
    refine ⟨WC, dx, _, ho, C.cl, C.n1, .ref a, rfl, a, rfl, us, .inl (sq_l ha), v, d, (srs.length : Nat), by rw [hus.len], hd, ?_⟩
    cases e : belowD (srs.length : Nat) d with
    | true => exact ⟨_, rfl, qG e⟩
    | false => 
      refine ⟨_, rfl, ?_⟩
      rw [if_pos (by decide)]
      exact ⟨v, rfl, err1_made (P := fun _ => True) True.intro fun x H' ne he k => qB e x H' ne he k⟩
def RdW (srs : List (List Mv)) (k : Int) (o a p l : Addr) (H : Hp) (m : Nat) (σ : L2.St) (H' : Hp) : Prop := ∃ (kvs : List (Key × V)) (ss wt : List Int) (c : Option V), H' p = some (.dK kvs) ∧ kvs.map (·.1) = ss.map Sum.inl ∧ H' l = some (.lst (wt.map V.int)) ∧ RdI srs k ss wt ∧ Kp [] H H' ∧ σ = [some (.ref o), some (.ref a), some (.ref p), some (.ref l), c] ∧ m = 101 * (srs.length - ss.length) + wt.length
theorem ints_last {wt : List Int} {x : V} (e : (wt.map V.int)[(wt.map V.int).length - 1]? = some x) : ∃ wi y, wt = wi ++ [y] ∧ x = .int y := by
  rcases List.eq_nil_or_concat wt with rfl | ⟨wi, y, rfl⟩
  · cases e
  · refine ⟨wi, y, by simp, ?_⟩
    simp at e
    exact e.symm
theorem ok_Web_reached {f : Addr} {fd : FuncData} (F : Fun K "reached" "Web.reached" s_Web_reached f fd) (T : BtW mg t1) {WC : Addr} (C : WbC K mg WC) : FnOk P w K mg base CX0 1 f fd ["self", "stands"] (spReach WC) := by
  refine F.ok sc_Web_reached (fun vs H Q E h => ?_) (fun cdv A outer s H vs Q E hr h => ?_)
  · obtain ⟨o, a, k, srs, rfl, _⟩ := h
    rfl
  · obtain ⟨o, a, k, srs, rfl, hW, ha, k0, k1, sl, hg, q⟩ := h
    have hu := hu_of hr
    refine ⟨_, (pss_cons (ps_set (i := 2) sc_Web_reached.nd rfl (Or.inl rfl) pe_dnewK)
      (pss_cons (ps_set (i := 3) sc_Web_reached.nd rfl (Or.inl rfl) (pe_callTy call_list_of (by rfl) T.b_list (by decide +kernel) (pa_cons (pv 1) pa_nil)))
      (pss_cons (ps_while PassesOwn.never (pt_truth (pv 3) (by intro _; rfl)) (pss_cons (ps_set (i := 4) sc_Web_reached.nd rfl (Or.inl rfl) (pe_bm0 PySem.F.plainAttrs_list PySem.F.slot_list_pop PySem.F.type_list_pop mt_pop (pv 3)))
      (pss_one (ps_if (pt_cmp (pc_dnotin hu (pv 4) (pv 2))) (pss_cons (ps_dput hu (pv 2) (pv 4) pe_bl rfl)
      (pss_one (ps_expr (pe_bm PySem.F.plainAttrs_list PySem.F.slot_list_extend PySem.F.type_list_extend mt_extend (pv 3) (pa_cons (pe_ix (r := rIxL K) ix_list (pe_fld (pv 0) rfl) (pv 4) (fun _ _ => rfl)) pa_nil))))) pss_nil))))
      (pss_one (ps_ret (pe_callTy (call_listD rfl) (by rfl) T.b_list (by decide +kernel) (pa_cons (pv 2) pa_nil))))))), ?_⟩
    try simp (maxSteps := 1000000) only [tSeq, tIfS, tTest, tOp, tUn, tCB, tCons, tNil, tVar, tC, rI0, rI, rU, rEq, rNe, tRet, tRetN, tAsg, gName, gSub, tBM, tBM0, tNext, tB, tNot, tAnd, tOr, tIf, tCall, tDrop, tBreak, tCont, L2.start, tDGet, sDPut, tTup, tLst, tDNewK, tRevL, rCat, rAppend, rPop, rSetL, tAndV, tOrV, tNotV, tSl, tPart, tNoPart, tM1, gTup, gCons, gNil, cxK, cxnK, List.map_cons, List.map_nil, List.length_cons, List.length_nil, List.replicate, List.cons_append, List.nil_append, List.append_nil, List.set_cons_zero, List.set_cons_succ, List.getElem?_cons_zero, List.getElem?_cons_succ, Option.some.injEq, V.ref.injEq, V.int.injEq, V.str.injEq, V.bl.injEq, V.ty.injEq, exists_eq_left', exists_eq_left, exists_and_left, List.cons.injEq, and_true, true_and, sc_ii, sc_ss, sc_bb, sc_ni, sc_in, sc_is, sc_si, sc_nn, decide_true, decide_false, reduceCtorEq, Bool.false_eq_true, if_true, if_false, ite_true, ite_false, exists_const, eq_self, false_and, and_false, or_false, false_or, exists_false, Evl.rLenS, rSum, wipe, tYes, exists_eq, exists_eq', rIxL, rIxT, rIxS, exists_and_right, gt_iff_lt, not_true_eq_false, not_false_eq_true, Bool.not_true, Bool.not_false, decide_eq_true_eq, Nat.reduceSub, Nat.reduceAdd, List.append_assoc, tChain, tDIn, tDNotIn, sDDel, tAug, ipI, rInt1_int, rInt1_bl, tFld]
    intro p np
    have kp := (Kp.new np : Kp [] H (upd H p (.dK [])))
    refine ⟨_, .inl (sq_l (kp _ _ not0 ha)), fun l nl => ?_⟩
    have npl : p ≠ l := fun z => by rw [z, upd_same] at nl; cases nl
    have nl0 : H l = none := kp.free0 nl
    refine ⟨RdW srs k o a p l H,
      ⟨_, _, [], [k], none, by rw [upd_ne npl, upd_same], rfl, upd_same, ⟨List.nodup_nil, fun x hx => (nomatch hx), fun x hx => by rw [List.mem_singleton.mp hx]; exact .base, .inr (by simp), fun x hx => (nomatch hx), Nat.le_refl _⟩, (kp.trans (Kp.new nl)), rfl, rfl⟩, ?_⟩
    rintro m σ H' ⟨kvs, ss, wt, c, hp, hk, hl, I, kq, rfl, rfl⟩
    have slen : ss.length ≤ srs.length := nodup_len I.nd fun x hx => (I.rs x hx).bnd hg k0 k1
    have klen : kvs.length = ss.length := by
      have := congrArg List.length hk
      rw [List.length_map, List.length_map] at this
      exact this
    try simp (maxSteps := 1000000) only [tSeq, tIfS, tTest, tOp, tUn, tCB, tCons, tNil, tVar, tC, rI0, rI, rU, rEq, rNe, tRet, tRetN, tAsg, gName, gSub, tBM, tBM0, tNext, tB, tNot, tAnd, tOr, tIf, tCall, tDrop, tBreak, tCont, L2.start, tDGet, sDPut, tTup, tLst, tDNewK, tRevL, rCat, rAppend, rPop, rSetL, tAndV, tOrV, tNotV, tSl, tPart, tNoPart, tM1, gTup, gCons, gNil, cxK, cxnK, List.map_cons, List.map_nil, List.length_cons, List.length_nil, List.replicate, List.cons_append, List.nil_append, List.append_nil, List.set_cons_zero, List.set_cons_succ, List.getElem?_cons_zero, List.getElem?_cons_succ, Option.some.injEq, V.ref.injEq, V.int.injEq, V.str.injEq, V.bl.injEq, V.ty.injEq, exists_eq_left', exists_eq_left, exists_and_left, List.cons.injEq, and_true, true_and, sc_ii, sc_ss, sc_bb, sc_ni, sc_in, sc_is, sc_si, sc_nn, decide_true, decide_false, reduceCtorEq, Bool.false_eq_true, if_true, if_false, ite_true, ite_false, exists_const, eq_self, false_and, and_false, or_false, false_or, exists_false, Evl.rLenS, rSum, wipe, tYes, exists_eq, exists_eq', rIxL, rIxT, rIxS, exists_and_right, gt_iff_lt, not_true_eq_false, not_false_eq_true, Bool.not_true, Bool.not_false, decide_eq_true_eq, Nat.reduceSub, Nat.reduceAdd, List.append_assoc, tChain, tDIn, tDNotIn, sDDel, tAug, ipI, rInt1_int, rInt1_bl]
    refine ⟨_, .inl ⟨_, sq_l hl, rfl⟩, ?_⟩
    rcases List.eq_nil_or_concat wt with rfl | ⟨wi, x, rfl⟩
    · simp only [List.map_nil, List.isEmpty_nil, Bool.not_true, Bool.false_eq_true, if_false]
      refine ⟨kvs, .inl hp, fun r nr => ?_⟩
      have e : (kvs.map fun kv => kV kv.1) = ss.map V.int := by
        have : (kvs.map fun kv => kV kv.1) = (kvs.map (·.1)).map kV := by rw [List.map_map]; rfl
        rw [this, hk, List.map_map]; rfl
      rw [e]
      exact q ss r _ I.nd (I.done ·) (kq.free0 nr) upd_same (kq.trans (Kp.new nr))
    · rw [show wi.concat x = wi ++ [x] from List.concat_eq_append] at hl I ⊢
      have ne : (!((wi ++ [x]).map V.int).isEmpty) = true := by simp
      rw [ne, if_pos rfl]
      refine ⟨fun σ' H2 => ∃ m', m' < 101 * (srs.length - ss.length) + (wi ++ [x]).length ∧ RdW srs k o a p l H m' σ' H2, fun _ _ h => h, .inl ⟨rfl, _, sq_l hl⟩, _, hl, .int x, by simp, ?_⟩
      have dl : ((wi ++ [x]).map V.int).dropLast = wi.map V.int := by simp
      rw [dl]
      have kD : Kp [] H (upd H' l (.lst (wi.map V.int))) := kq.wr nl0
      have hp2 : (upd H' l (.lst (wi.map V.int))) p = some (.dK kvs) := by rw [upd_ne npl]; exact hp
      have hl2 : (upd H' l (.lst (wi.map V.int))) l = some (.lst (wi.map V.int)) := upd_same
      generalize upd H' l (.lst (wi.map V.int)) = G at kD hp2 hl2
      refine ⟨_, DGet.k (k := .inl x) hp2, ?_⟩
      obtain ⟨x0, x1⟩ := (I.rw_ x (by simp)).bnd hg k0 k1
      by_cases hx : x ∈ ss
      · have vs : valV kvs (Sum.inl x) ≠ none := fun e => valV_not e (by rw [hk]; exact List.mem_map_of_mem hx)
        rw [show (valV kvs (Sum.inl x)).isSome = true from Option.isSome_iff_ne_none.mpr vs]
        simp only [Bool.not_true, Bool.false_eq_true, if_false]
        exact ⟨_, by rw [List.length_append, List.length_singleton]; omega, kvs, ss, wi, _, hp2, hk, hl2, I.seen hx, kD, rfl, rfl⟩
      · have vn : valV kvs (Sum.inl x) = none := valV_none (by
          rw [hk]
          intro z
          obtain ⟨y, hy, e⟩ := List.mem_map.mp z
          injection e with e
          exact hx (e ▸ hy))
        rw [vn]
        simp only [Option.isSome_none, Bool.not_false, if_true]
        refine ⟨_, DPut.k (k := .inl x) hp2 (by rw [klen, sizeLine_eq]; omega), ?_⟩
        rw [putK_new _ vn]
        have kE : Kp [] H (upd G p (.dK (kvs ++ [(.inl x, .bl true)]))) := kD.wr np
        have hl3 : (upd G p (.dK (kvs ++ [(.inl x, .bl true)]))) l = some (.lst (wi.map V.int)) := by rw [upd_ne (Ne.symm npl)]; exact hl2
        have hp3 : (upd G p (.dK (kvs ++ [(.inl x, .bl true)]))) p = some (.dK (kvs ++ [(.inl x, .bl true)])) := upd_same
        generalize upd G p (.dK (kvs ++ [(.inl x, .bl true)])) = G2 at kE hl3 hp3
        obtain ⟨dx, aa, b, c, us, gs, hs, ho, haa, hus, hb, hgs, hc, hhs⟩ := hW.kp kE
        have em : srs[x.toNat]? = some (srs[x.toNat]'(by omega)) := List.getElem?_eq_getElem _
        generalize srs[x.toNat]'(by omega) = ms at em
        have gm := hg ms (List.mem_of_getElem? em)
        obtain ⟨u, eu, d, rfl, hd⟩ := hhs.at em
        try simp (maxSteps := 1000000) only [tSeq, tIfS, tTest, tOp, tUn, tCB, tCons, tNil, tVar, tC, rI0, rI, rU, rEq, rNe, tRet, tRetN, tAsg, gName, gSub, tBM, tBM0, tNext, tB, tNot, tAnd, tOr, tIf, tCall, tDrop, tBreak, tCont, L2.start, tDGet, sDPut, tTup, tLst, tDNewK, tRevL, rCat, rAppend, rPop, rSetL, tAndV, tOrV, tNotV, tSl, tPart, tNoPart, tM1, gTup, gCons, gNil, cxK, cxnK, List.map_cons, List.map_nil, List.length_cons, List.length_nil, List.replicate, List.cons_append, List.nil_append, List.append_nil, List.set_cons_zero, List.set_cons_succ, List.getElem?_cons_zero, List.getElem?_cons_succ, Option.some.injEq, V.ref.injEq, V.int.injEq, V.str.injEq, V.bl.injEq, V.ty.injEq, exists_eq_left', exists_eq_left, exists_and_left, List.cons.injEq, and_true, true_and, sc_ii, sc_ss, sc_bb, sc_ni, sc_in, sc_is, sc_si, sc_nn, decide_true, decide_false, reduceCtorEq, Bool.false_eq_true, if_true, if_false, ite_true, ite_false, exists_const, eq_self, false_and, and_false, or_false, false_or, exists_false, Evl.rLenS, rSum, wipe, tYes, exists_eq, exists_eq', rIxL, rIxT, rIxS, exists_and_right, gt_iff_lt, not_true_eq_false, not_false_eq_true, Bool.not_true, Bool.not_false, decide_eq_true_eq, Nat.reduceSub, Nat.reduceAdd, List.append_assoc, tChain, tDIn, tDNotIn, sDDel, tAug, ipI, rInt1_int, rInt1_bl, tFld]
        refine ⟨.inl ⟨rfl, _, sq_l hl3⟩, WC, dx, _, ho, C.cl, C.n3, .ref c, rfl, c, rfl, hs, sq_l hc, .ref d, atI_of x0 eu, l, d, _, _, rfl, rfl, hl3, hd, ?_, ?_⟩
        · have h1 := (I.new hx x0 em gm).len
          rw [List.length_append, List.length_append, List.length_singleton] at h1
          rw [List.length_map, List.length_map, sizeLine_eq]
          omega
        · have lpl : l ≠ p := Ne.symm npl
          refine ⟨_, ?_, kvs ++ [(.inl x, .bl true)], ss ++ [x], wi ++ hidM ms, _, by rw [upd_ne npl]; exact hp3, by rw [List.map_append, List.map_append, hk]; rfl, by rw [upd_same, List.map_append], I.new hx x0 em gm, kE.wr nl0, rfl, rfl⟩
          have h1 := hidM_len gm
          have h2 := nodup_len (n := srs.length) (I.new hx x0 em gm).nd fun y hy => ((I.new hx x0 em gm).rs y hy).bnd hg k0 k1
          rw [List.length_append, List.length_singleton] at h2
          rw [List.length_append, List.length_append, List.length_append, List.length_singleton]
          omega
end
end My

set_option Elab.async false
set_option linter.all false
set_option maxRecDepth 100000
set_option maxHeartbeats 4000000
/-! ### a quiet def, whatever exception is handled around its call -/
namespace My
open PySem PySem.Spec PyProof.Rows L2
structure RoomZ (k : Nat) (A : Around) : Prop where
  dep : A.depth + 3 * k + 5 < recursionLimit
  uni : A.units + 16 * k + 200 < cLine
/-- the room behind a mark is that ahead of it -/
theorem roomZ_mark {k : Nat} {A : Around} {v : Option Value} (r : Room k A) : RoomZ k (A.mark v) := ⟨r.dp, r.un⟩
def cxZ (CX : CXT) (P : Program) (w : World) (K : PySem.W.Frag) (mg : Str → Option Value) (base : Heap) (N : List Str) (qual : Str) (sc : Scope) (f : Addr) (cd : Value) (A : Around) (outer : List Env) (s : Shared) (H : Hp) (E : XK) : Cx := { cxOf CX P w K mg base N qual sc f cd A outer s H E with calm := false }
structure FnZ (P : Program) (w : World) (K : PySem.W.Frag) (mg : Str → Option Value) (base : Heap) (CX : CXT) (k : Nat) (f : Addr) (fd : FuncData) (ps : List Str) (sp : Sp) : Prop where
  len : ∀ vs H Q E, sp vs H Q E → vs.length = ps.length
  run : ∀ (A : Around) (outer : List Env) (s : Shared) (H : Hp) (ar : Args) (us : List Value) (vs : List V) (Q : VK) (E : XK), RoomZ k A → Env0 P w K mg base A outer s H → BindsTo s fd ar (ps.zip us) → Vals vs us → sp vs H Q E → codeAny (model P w) A (.call (.ref f) ar) (CR CX outer P w H s Q E) s
section
variable {CX : CXT} {P : Program} {w : World} {K : PySem.W.Frag} {mg : Str → Option Value} {base : Heap} {N ps : List Str} {qual : Str} {sc : Scope} {f : Addr} {cd : Value} {k : Nat} {sp : Sp}
theorem e0_free {A : Around} {outer : List Env} {s : Shared} {H : Hp} (e : Env0 P w K mg base A outer s H) : Env0 P w K mg base { A with handled := none } outer s H := ⟨e.frames, e.mod, e.bs, e.bsz, e.funs, e.frf, e.hok, e.bare⟩
theorem inv_startZ {A : Around} {outer : List Env} {s s1 : Shared} {H : Hp} {E : XK} {us : List Value} {vs : List V} (S : FnScope N ps sc) (e0 : Env0 P w K mg base A outer s H) (hl : vs.length = ps.length) (r : Vals vs us)
    (x : InCallC s s.heap.objs.size (bindL (envOfC qual sc s.heap.objs.size f cd).kindOf (ps.zip us) fun _ => none) (cellsFrom (s.heap.objs.size + 1) sc.names []) (bindC (envOfC qual sc s.heap.objs.size f cd).kindOf (ps.zip us) fun _ => none) s1) : Inv (cxZ CX P w K mg base N qual sc f cd A outer s H E) [] (L2.start N vs) H s1 := by
  have J := inv_start (CX := CX) (E := E) (A := { A with handled := none }) S rfl (e0_free e0) hl r x
  have o := J.ok
  exact ⟨⟨o.mod, o.kind, o.glob, o.blt, o.above, o.inj, o.has, o.cab, fun z => (by cases z), Around.frames_deeper e0.frames, o.stk, o.exf, o.bs, o.bsz, o.noex, o.exfs, o.funs, o.frf⟩, J.os, J.bare, J.base, J.loc, J.cell, J.free, J.freeC, J.pin, J.hok, J.len⟩
theorem fn_ofZ {name : Str} {params : Arguments} {body : List Stmt} {dV kV doc pm ct oc : Value} {an od : Option Addr} {osl : Array (Option Value)} (lk : K.lookup f = some ⟨oc, od, .func (PySem.W.fnOf name qual params body sc dV kV doc pm an cd ct), osl⟩) (hcd : PySem.W.codeIn K cd qual = true) (S : FnScope N ps sc)
    (len : ∀ vs H Q E, sp vs H Q E → vs.length = ps.length)
    (todo : ∀ (A : Around) (outer : List Env) (s : Shared) (H : Hp) (vs : List V) (Q : VK) (E : XK), sp vs H Q E → ∃ t, PSs (cxZ CX P w K mg base N qual sc f cd A outer s H E) body t ∧ t { nx := fun _ H' => Q .non H', rt := Q } (L2.start N vs) H) :
    FnZ P w K mg base CX (k + 1) f (PySem.W.fnOf name qual params body sc dV kV doc pm an cd ct) ps sp := by
  refine ⟨len, fun A outer s H ar us vs Q E room e0 bnd vals hsp => ?_⟩
  have kin : K.In s.heap := e0.mod.kin.keeps fun b o z => (e0.bs b o z).1
  have nolim : s.heap.NoLimit := e0.mod.nolimit.keeps fun b o z => (e0.bs b o z).1
  have dep : A.depth < recursionLimit := by
    have := room.dep
    omega
  refine codeAny_call_function dep (kin _ _ lk) rfl S.co S.gen rfl (PySem.W.codeRec_of kin hcd) (bnd _ _ _ _ ?_)
  have kinds : ∀ y ∈ ps.zip us, sc.names.lookup y.1 = some .local ∨ (sc.names.lookup y.1 = some .cell ∧ ((cellsFrom (s.heap.objs.size + 1) sc.names []).lookup y.1).isSome = true) := fun ⟨n, v⟩ hy =>
    (S.par n (List.of_mem_zip hy).1).imp id fun z => ⟨z, PySem.W.cellsFrom_some _ _ _ (.inl z)⟩
  refine wpAny_newFunctionEnv_cells S.kind kinds fun env he s1 x => ?_
  cases he
  refine ⟨nolim.keeps x.toInCall.keep, codeAny_func ?_⟩
  obtain ⟨t, ht, hq⟩ := todo A outer s H vs Q E hsp
  have I := inv_startZ (CX := CX) (E := E) (cd := cd) S e0 (len _ _ _ _ hsp) vals x
  refine wpAny_mono (ht.run [] s1 (L2.start N vs) H _ I hq) (fun fl s' done => ?_) fun e s' z => z
  cases fl with
  | ret u =>
    obtain ⟨v, σ', H', J, rv, z⟩ := done
    exact ⟨v, H', J.os, J.bare, J.base, J.hok, rv, z⟩
  | next =>
    obtain ⟨σ', H', J, z⟩ := done
    exact ⟨V.non, H', J.os, J.bare, J.base, J.hok, rfl, z⟩
  | brk => obtain ⟨_, _, _, z⟩ := done; exact z.elim
  | cont => obtain ⟨_, _, _, z⟩ := done; exact z.elim
end
section
variable {X : Cx} {CX : CXT} {k : Nat} {f : Addr} {fd : FuncData} {ps : List Str} {sp : Sp} {E : L2.St → XK} {x : Str} {q pos : Pos} {e : Expr} {es : List Expr} {t : TA}
theorem pe_callZ (F : FnZ X.prog X.w X.K X.mg X.base CX k f fd ps sp) (hr : RoomZ k X.A) (hg : Gl X x) (hm : X.mg x = some (.ref f)) (hk : PySem.W.keepIn X.K (.ref f) = true) (hb : Binds X.K fd ps []) (hx : ∀ σ, PassesAt CX X σ (E σ))
    (ha : PA X (e :: es) t) (hdb : (x == ("__debug__" : Str)) = false := by decide) (he : starEach (e :: es) X.env = (false, eval e X.env) :: starEach es X.env := by rfl) (hpl : (backTo pos (starEach es X.env)).any (·.1) = false := by rfl) : PE X (.Call (.Name x q) (e :: es) [] pos) (tCallS sp E t) := by
  refine ⟨fun pins s σ H Q I h => wpAny_Call_Name_kw (ld_glob I hg hm (PySem.W.callWith_K (h₀ := X.base) I.ok.mod.kin hk (thn (ha.run pos pins s σ H _ I h) fun us s1 ⟨vs, H1, I1, r, z⟩ => ⟨I1.kIn, ?_⟩) he hpl) hdb)⟩
  have hl : us.length = ps.length := r.length.symm.trans (F.len _ _ _ _ z)
  have b := hb s1 us I1.kIn (by rw [List.append_nil]; exact hl)
  rw [List.append_nil] at b
  refine wpAny_call (codeAny_mono (F.run X.A X.stack s1 H1 ⟨us, []⟩ us vs Q (E σ) hr I1.env0 b r z) fun r s' hq => ?_)
  cases r with
  | error e => exact hx σ pins H1 s1 e s' I1 hq
  | ok fl => cases fl with
    | ret u => exact I1.after hq
    | next => exact hq.elim
    | brk => exact hq.elim
    | cont => exact hq.elim
end
end My

set_option Elab.async false
set_option linter.all false
set_option maxRecDepth 100000
set_option maxHeartbeats 4000000
/-! ### the error that is handled, handed to an own def -/
namespace My
open PySem PySem.Spec PyProof.Rows L2 NdefX

section
variable {X : Cx} {a : Addr} {oe : Obj} {cls : Value} {d : Option Addr}
theorem inst_p {pins : List (Addr × Obj)} {s : Shared} {σ : L2.St} {H : Hp} {D dd : Addr} {fs : List (Str × V)} (I : Inv X pins σ H s) (hm : (a, oe) ∈ X.pn) (hz : Zc (.ref D) (some dd) oe) (hf : ∃ vs, oe.data = .fields vs) (e : H dd = some (.xd fs)) : ∃ od, PySem.W.InstAt s.heap a oe D (some od) := by
  obtain ⟨ha, _⟩ := I.pin (a, oe) (List.mem_append_left _ hm)
  obtain ⟨vs, hv⟩ := hf
  obtain ⟨mA, hns, _⟩ := (show ObjOk X.prog X.w H s.heap dd (.xd fs) from I.hok dd _ e)
  obtain ⟨od, ho, _⟩ := lookIn_ns hns
  exact ⟨od, ha, hz.1, by unfold PySem.W.notCls; rw [hv] <;> rfl, by rw [hz.2]; exact ho⟩
theorem call_isP (hm : (a, oe) ∈ X.pn) (hz : Zc cls d oe) (hf : ∃ vs, oe.data = .fields vs) : CallR X (.builtin "isinstance") (rIsX X.K a cls d) := by
  intro pins s σ H xs us Q I r h
  obtain ⟨c, cv, b, D, dd, fs, rfl, hcv, rfl, rfl, ed, T, e, q⟩ := h
  obtain ⟨u1, u2, rfl, r1, r2⟩ := vals2 r
  cases (show u1 = Value.ref a from r1)
  cases hcv _ r2
  obtain ⟨od, J⟩ := inst_p I hm hz hf ed
  exact PySem.W.kia_one (PySem.W.kitx_exc T.cl T.ga T.gg T.bx T.hc T.hn T.ht T.ob) I.kIn J e (fun z => nomatch z) fun tk => ⟨.bl b, H, I.tok tk, rfl, q⟩
theorem pe_xfP {C : Addr} {e : Expr} {te : TE} {pos : Pos} {n : Str} (T : XfC X.K C) (hno : PySem.W.findIn X.K (.ref C) n = some none)
    (hm : (a, oe) ∈ X.pn) (hz : Zc cls d oe) (hf : ∃ vs, oe.data = .fields vs) (he : PE X e te) (hb : attributeBase e n X.env (eval e X.env) = eval e X.env := by rfl) :
    PE X (.Attribute e n pos) (tXf a cls d C n te) := by
  refine ⟨fun pins s σ H Q I h => ?_⟩
  refine attr_of hb (thn (he.run pins s σ H _ I h) fun u s1 hh => ?_)
  obtain ⟨x, H1, I1, rx, ex, ec, dd, fs, v, ed, ea, l, q⟩ := hh
  subst ex
  obtain rfl : u = Value.ref a := rx
  subst ec
  subst ed
  obtain ⟨ha, _⟩ := I1.pin (a, oe) (List.mem_append_left _ hm)
  obtain ⟨vs, hd⟩ := hf
  have hx : ObjOk X.prog X.w H1 s1.heap dd (.xd fs) := I1.hok dd _ ea
  obtain ⟨mA, hns, hr⟩ := hx
  obtain ⟨od, ho, hl⟩ := lookIn_ns hns
  obtain ⟨u, hu, ru⟩ := RelO.some_of (v := v) (o := mA n) (by rw [← l]; exact hr n)
  have J : PySem.W.InstAt s1.heap a oe C (some od) := ⟨ha, hz.1, by unfold PySem.W.notCls; rw [hd] <;> rfl, by rw [hz.2]; exact ho⟩
  exact HandSPX.exc_get I1.kIn J T.ga T.gg T.exC (PySem.W.findObj_own T.hdC hno rfl (by rw [hl, hu])) (handed_of ru) ⟨v, H1, I1.tok _, ru, q⟩
end
theorem RoomZ.mono {j k : Nat} {A : Around} (r : RoomZ k A) (h : j ≤ k) : RoomZ j A := ⟨by have := r.dep; omega, by have := r.uni; omega⟩
theorem RoomZ.deeper {k : Nat} {A : Around} (r : RoomZ (k + 1) A) (env : Env) : RoomZ k (A.deeper env) :=
  ⟨by have := r.dep; show A.depth + 1 + 3 * k + 5 < _; omega, by have := r.uni; show A.units + 3 + 16 * k + 200 < _; omega⟩
theorem RoomZ.units {k : Nat} {A : Around} (r : RoomZ k A) : A.units + 64 < cLine := by have := r.uni; omega
theorem RoomZ.units0 {k : Nat} {A : Around} (r : RoomZ k A) : A.units + 1 < cLine := by have := r.uni; omega
def cxZE (CX : CXT) (P : Program) (w : World) (K : PySem.W.Frag) (mg : Str → Option Value) (base : Heap) (N : List Str) (qual : Str) (sc : Scope) (f : Addr) (cd : Value) (A : Around) (outer : List Env) (s : Shared) (H : Hp) (E : XK) (pn : List (Addr × Obj)) : Cx := { cxOf CX P w K mg base N qual sc f cd A outer s H E with calm := false, pn := pn }
/-- what is known of the error, as it stands -/
structure Held (s : Shared) (H : Hp) (outer : List Env) (a : Addr) (oe : Obj) (cls : Value) (d : Option Addr) : Prop where
  z : Zc cls d oe
  f : ∃ vs, oe.data = .fields vs
  at_ : s.heap.get? a = some oe
  no : H a = none
  fr : a ∉ frs outer
structure FnZE (P : Program) (w : World) (K : PySem.W.Frag) (mg : Str → Option Value) (base : Heap) (CX : CXT) (k : Nat) (f : Addr) (fd : FuncData) (ps : List Str) (sp : Addr → Value → Option Addr → Sp) : Prop where
  len : ∀ a cls d vs H Q E, sp a cls d vs H Q E → vs.length = ps.length
  run : ∀ (A : Around) (outer : List Env) (s : Shared) (H : Hp) (ar : Args) (us : List Value) (vs : List V) (Q : VK) (E : XK) (a : Addr) (oe : Obj) (cls : Value) (d : Option Addr), RoomZ k A → Env0 P w K mg base A outer s H → BindsTo s fd ar (ps.zip us) → Vals vs us → Held s H outer a oe cls d → sp a cls d vs H Q E → codeAny (model P w) A (.call (.ref f) ar) (CR CX outer P w H s Q E) s
section
variable {CX : CXT} {P : Program} {w : World} {K : PySem.W.Frag} {mg : Str → Option Value} {base : Heap} {N ps : List Str} {qual : Str} {sc : Scope} {f : Addr} {cd : Value} {k : Nat} {sp : Addr → Value → Option Addr → Sp}
theorem inv_startZE {A : Around} {outer : List Env} {s s1 : Shared} {H : Hp} {E : XK} {us : List Value} {vs : List V} {a : Addr} {oe : Obj} {cls : Value} {d : Option Addr} (S : FnScope N ps sc) (e0 : Env0 P w K mg base A outer s H) (hl : vs.length = ps.length) (r : Vals vs us) (h : Held s H outer a oe cls d)
    (x : InCallC s s.heap.objs.size (bindL (envOfC qual sc s.heap.objs.size f cd).kindOf (ps.zip us) fun _ => none) (cellsFrom (s.heap.objs.size + 1) sc.names []) (bindC (envOfC qual sc s.heap.objs.size f cd).kindOf (ps.zip us) fun _ => none) s1) : Inv (cxZE CX P w K mg base N qual sc f cd A outer s H E [(a, oe)]) [] (L2.start N vs) H s1 := by
  have J := inv_startZ (CX := CX) (E := E) S e0 hl r x
  have o := J.ok
  refine ⟨⟨o.mod, o.kind, o.glob, o.blt, o.above, o.inj, o.has, o.cab, fun z => (by cases z), o.frames, o.stk, o.exf, o.bs, o.bsz, o.noex, o.exfs, o.funs, o.frf⟩, J.os, J.bare, J.base, J.loc, J.cell, J.free, J.freeC, fun p hp => ?_, J.hok, J.len⟩
  have hp' : p ∈ [(a, oe)] := by simpa [cxZE] using hp
  rw [List.mem_singleton.mp hp']
  obtain ⟨vs', hv⟩ := h.f
  have lt := Heap.lt_size h.at_
  exact ⟨x.toInCall.keep _ _ h.at_, h.no, fun z => absurd lt (by rw [show a = s.heap.objs.size from z]; exact Nat.lt_irrefl _), h.fr, fun v z => by rw [show oe.data = .cell v from z] at hv; cases hv⟩
theorem fn_ofZE {name : Str} {params : Arguments} {body : List Stmt} {dV kV doc pm ct oc : Value} {an od : Option Addr} {osl : Array (Option Value)} (lk : K.lookup f = some ⟨oc, od, .func (PySem.W.fnOf name qual params body sc dV kV doc pm an cd ct), osl⟩) (hcd : PySem.W.codeIn K cd qual = true) (S : FnScope N ps sc)
    (len : ∀ a cls d vs H Q E, sp a cls d vs H Q E → vs.length = ps.length)
    (todo : ∀ (A : Around) (outer : List Env) (s : Shared) (H : Hp) (vs : List V) (Q : VK) (E : XK) (a : Addr) (oe : Obj) (cls : Value) (d : Option Addr), RoomZ k (A.deeper (envOfC qual sc s.heap.objs.size f cd)) → Zc cls d oe → (∃ vs, oe.data = .fields vs) → sp a cls d vs H Q E → ∃ t, PSs (cxZE CX P w K mg base N qual sc f cd A outer s H E [(a, oe)]) body t ∧ t { nx := fun _ H' => Q .non H', rt := Q } (L2.start N vs) H) :
    FnZE P w K mg base CX (k + 1) f (PySem.W.fnOf name qual params body sc dV kV doc pm an cd ct) ps sp := by
  refine ⟨len, fun A outer s H ar us vs Q E a oe cls d room e0 bnd vals held hsp => ?_⟩
  have kin : K.In s.heap := e0.mod.kin.keeps fun b o z => (e0.bs b o z).1
  have nolim : s.heap.NoLimit := e0.mod.nolimit.keeps fun b o z => (e0.bs b o z).1
  have dep : A.depth < recursionLimit := by
    have := room.dep
    omega
  refine codeAny_call_function dep (kin _ _ lk) rfl S.co S.gen rfl (PySem.W.codeRec_of kin hcd) (bnd _ _ _ _ ?_)
  have kinds : ∀ y ∈ ps.zip us, sc.names.lookup y.1 = some .local ∨ (sc.names.lookup y.1 = some .cell ∧ ((cellsFrom (s.heap.objs.size + 1) sc.names []).lookup y.1).isSome = true) := fun ⟨n, v⟩ hy =>
    (S.par n (List.of_mem_zip hy).1).imp id fun z => ⟨z, PySem.W.cellsFrom_some _ _ _ (.inl z)⟩
  refine wpAny_newFunctionEnv_cells S.kind kinds fun env he s1 x => ?_
  cases he
  refine ⟨nolim.keeps x.toInCall.keep, codeAny_func ?_⟩
  obtain ⟨t, ht, hq⟩ := todo A outer s H vs Q E a oe cls d (room.deeper _) held.z held.f hsp
  have I := inv_startZE (CX := CX) (E := E) (cd := cd) S e0 (len _ _ _ _ _ _ _ hsp) vals held x
  refine wpAny_mono (ht.run [] s1 (L2.start N vs) H _ I hq) (fun fl s' done => ?_) fun e s' z => z
  cases fl with
  | ret u =>
    obtain ⟨v, σ', H', J, rv, z⟩ := done
    exact ⟨v, H', J.os, J.bare, J.base, J.hok, rv, z⟩
  | next =>
    obtain ⟨σ', H', J, z⟩ := done
    exact ⟨V.non, H', J.os, J.bare, J.base, J.hok, rfl, z⟩
  | brk => obtain ⟨_, _, _, z⟩ := done; exact z.elim
  | cont => obtain ⟨_, _, _, z⟩ := done; exact z.elim
/-- .. where no error is handed on, but with the room told -/
theorem fn_ofZR {sp : Sp} {name : Str} {params : Arguments} {body : List Stmt} {dV kV doc pm ct oc : Value} {an od : Option Addr} {osl : Array (Option Value)} (lk : K.lookup f = some ⟨oc, od, .func (PySem.W.fnOf name qual params body sc dV kV doc pm an cd ct), osl⟩) (hcd : PySem.W.codeIn K cd qual = true) (S : FnScope N ps sc)
    (len : ∀ vs H Q E, sp vs H Q E → vs.length = ps.length)
    (todo : ∀ (A : Around) (outer : List Env) (s : Shared) (H : Hp) (vs : List V) (Q : VK) (E : XK), RoomZ k (A.deeper (envOfC qual sc s.heap.objs.size f cd)) → sp vs H Q E → ∃ t, PSs (cxZ CX P w K mg base N qual sc f cd A outer s H E) body t ∧ t { nx := fun _ H' => Q .non H', rt := Q } (L2.start N vs) H) :
    FnZ P w K mg base CX (k + 1) f (PySem.W.fnOf name qual params body sc dV kV doc pm an cd ct) ps sp := by
  refine ⟨len, fun A outer s H ar us vs Q E room e0 bnd vals hsp => ?_⟩
  have kin : K.In s.heap := e0.mod.kin.keeps fun b o z => (e0.bs b o z).1
  have nolim : s.heap.NoLimit := e0.mod.nolimit.keeps fun b o z => (e0.bs b o z).1
  have dep : A.depth < recursionLimit := by
    have := room.dep
    omega
  refine codeAny_call_function dep (kin _ _ lk) rfl S.co S.gen rfl (PySem.W.codeRec_of kin hcd) (bnd _ _ _ _ ?_)
  have kinds : ∀ y ∈ ps.zip us, sc.names.lookup y.1 = some .local ∨ (sc.names.lookup y.1 = some .cell ∧ ((cellsFrom (s.heap.objs.size + 1) sc.names []).lookup y.1).isSome = true) := fun ⟨n, v⟩ hy =>
    (S.par n (List.of_mem_zip hy).1).imp id fun z => ⟨z, PySem.W.cellsFrom_some _ _ _ (.inl z)⟩
  refine wpAny_newFunctionEnv_cells S.kind kinds fun env he s1 x => ?_
  cases he
  refine ⟨nolim.keeps x.toInCall.keep, codeAny_func ?_⟩
  obtain ⟨t, ht, hq⟩ := todo A outer s H vs Q E (room.deeper _) hsp
  have I := inv_startZ (CX := CX) (E := E) (cd := cd) S e0 (len _ _ _ _ hsp) vals x
  refine wpAny_mono (ht.run [] s1 (L2.start N vs) H _ I hq) (fun fl s' done => ?_) fun e s' z => z
  cases fl with
  | ret u =>
    obtain ⟨v, σ', H', J, rv, z⟩ := done
    exact ⟨v, H', J.os, J.bare, J.base, J.hok, rv, z⟩
  | next =>
    obtain ⟨σ', H', J, z⟩ := done
    exact ⟨V.non, H', J.os, J.bare, J.base, J.hok, rfl, z⟩
  | brk => obtain ⟨_, _, _, z⟩ := done; exact z.elim
  | cont => obtain ⟨_, _, _, z⟩ := done; exact z.elim
/-- nothing asks for it -/
theorem fnZ_no {sp : Sp} {f : Addr} {fd : FuncData} {k : Nat} (h : ∀ vs H Q E, ¬ sp vs H Q E) : FnZ P w K mg base CX k f fd ps sp := ⟨fun vs H Q E z => absurd z (h _ _ _ _), fun _ _ _ _ _ _ _ _ _ _ _ _ _ z => absurd z (h _ _ _ _)⟩
end
section
variable {X : Cx} {CX : CXT} {k : Nat} {f : Addr} {fd : FuncData} {ps : List Str} {sp : Addr → Value → Option Addr → Sp} {E : L2.St → XK} {x : Str} {q pos : Pos} {e : Expr} {es : List Expr} {t : TA} {a : Addr} {oe : Obj} {cls : Value} {d : Option Addr}
theorem pe_callZE (hmp : (a, oe) ∈ X.pn) (hz : Zc cls d oe) (hf : ∃ vs, oe.data = .fields vs) (F : FnZE X.prog X.w X.K X.mg X.base CX k f fd ps sp) (hr : RoomZ k X.A) (hg : Gl X x) (hm : X.mg x = some (.ref f)) (hk : PySem.W.keepIn X.K (.ref f) = true) (hb : Binds X.K fd ps []) (hx : ∀ σ, PassesAt CX X σ (E σ))
    (ha : PA X (e :: es) t) (hdb : (x == ("__debug__" : Str)) = false := by decide) (he : starEach (e :: es) X.env = (false, eval e X.env) :: starEach es X.env := by rfl) (hpl : (backTo pos (starEach es X.env)).any (·.1) = false := by rfl) : PE X (.Call (.Name x q) (e :: es) [] pos) (tCallS (sp a cls d) E t) := by
  refine ⟨fun pins s σ H Q I h => wpAny_Call_Name_kw (ld_glob I hg hm (PySem.W.callWith_K (h₀ := X.base) I.ok.mod.kin hk (thn (ha.run pos pins s σ H _ I h) fun us s1 ⟨vs, H1, I1, r, z⟩ => ⟨I1.kIn, ?_⟩) he hpl) hdb)⟩
  have hl : us.length = ps.length := r.length.symm.trans (F.len _ _ _ _ _ _ _ z)
  have b := hb s1 us I1.kIn (by rw [List.append_nil]; exact hl)
  rw [List.append_nil] at b
  obtain ⟨p1, p2, p3, p4, p5⟩ := I1.pin (a, oe) (List.mem_append_left _ hmp)
  have fr : a ∉ frs X.stack := by
    rcases I1.ok.stk with e | ⟨e, ef⟩
    · rw [e]; exact p4
    · rw [e]
      unfold frs
      rw [List.filterMap_cons, ef]
      intro z
      rcases List.mem_cons.mp z with z | z
      · exact p3 z
      · exact p4 z
  refine wpAny_call (codeAny_mono (F.run X.A X.stack s1 H1 ⟨us, []⟩ us vs Q (E σ) a oe cls d hr I1.env0 b r ⟨hz, hf, p1, p2, fr⟩ z) fun r s' hq => ?_)
  cases r with
  | error e => exact hx σ pins H1 s1 e s' I1 hq
  | ok fl => cases fl with
    | ret u => exact I1.after hq
    | next => exact hq.elim
    | brk => exact hq.elim
    | cont => exact hq.elim
end
end My

set_option Elab.async false
set_option linter.all false
set_option maxRecDepth 100000
set_option maxHeartbeats 4000000
namespace My
open PySem L2 NdefX
abbrev s_Web_moves : Stmt := mtop 15 3
theorem sc_Web_moves : FnScope ["self", "at"] ["self", "at"] (defScope s_Web_moves) := ⟨rfl, rfl, rfl, by decide +kernel, rfl, by decide +kernel, by decide +kernel⟩
abbrev s_Web_len : Stmt := mtop 15 1
theorem sc_Web_len : FnScope ["self"] ["self"] (defScope s_Web_len) := ⟨rfl, rfl, rfl, by decide +kernel, rfl, by decide +kernel, by decide +kernel⟩
section
variable {P : Program} {w : World} {K : PySem.W.Frag} {mg : Str → Option Value} {base : Heap} {tL t1 t2 : Tok}
def spWLen (WC : Addr) : Sp := fun vs H Q _ => ∃ (o : Addr) (srs : List (List Mv)), vs = [.ref o] ∧ WebAt WC H o srs ∧ Q (.int (srs.length : Nat)) H
theorem ok_Web_len {f : Addr} {fd : FuncData} (F : Fun K "__len__" "Web.__len__" s_Web_len f fd) (T : BtW mg t1) {WC : Addr} (C : WbC K mg WC) : FnOk P w K mg base CX0 1 f fd ["self"] (spWLen WC) := by
  refine F.ok sc_Web_len (fun vs H Q E h => ?_) (fun cdv A outer s H vs Q E hr h => ?_)
  · obtain ⟨o, srs, rfl, _⟩ := h
    rfl
  · obtain ⟨o, srs, rfl, ⟨dx, a, b, c, us, gs, hs, ho, ha, hus, hb, hgs, hc, hhs⟩, q⟩ := h
    refine ⟨_, (pss_one (ps_ret (pe_callB (id := "len") (r := Evl.rLenS K) call_len_seq (by rfl) T.b_len PySem.boot_len (pa_cons (pe_fld (pv 0) rfl) pa_nil)))), ?_⟩
    try simp (maxSteps := 1000000) only [tSeq, tIfS, tTest, tOp, tUn, tCB, tCons, tNil, tVar, tC, rI0, rI, rU, rEq, rNe, tRet, tRetN, tAsg, gName, gSub, tBM, tBM0, tNext, tB, tNot, tAnd, tOr, tIf, tCall, tDrop, tBreak, tCont, L2.start, tDGet, sDPut, tTup, tLst, tDNewK, tRevL, rCat, rAppend, rPop, rSetL, tAndV, tOrV, tNotV, tSl, tPart, tNoPart, tM1, gTup, gCons, gNil, cxK, cxnK, List.map_cons, List.map_nil, List.length_cons, List.length_nil, List.replicate, List.cons_append, List.nil_append, List.append_nil, List.set_cons_zero, List.set_cons_succ, List.getElem?_cons_zero, List.getElem?_cons_succ, Option.some.injEq, V.ref.injEq, V.int.injEq, V.str.injEq, V.bl.injEq, V.ty.injEq, exists_eq_left', exists_eq_left, exists_and_left, List.cons.injEq, and_true, true_and, sc_ii, sc_ss, sc_bb, sc_ni, sc_in, sc_is, sc_si, sc_nn, decide_true, decide_false, reduceCtorEq, Bool.false_eq_true, if_true, if_false, ite_true, ite_false, exists_const, eq_self, false_and, and_false, or_false, false_or, exists_false, Evl.rLenS, rSum, wipe, tYes, exists_eq, exists_eq', rIxL, rIxT, rIxS, exists_and_right, gt_iff_lt, not_true_eq_false, not_false_eq_true, Bool.not_true, Bool.not_false, decide_eq_true_eq, Nat.reduceSub, Nat.reduceAdd, List.append_assoc, tChain, tDIn, tDNotIn, sDDel, tAug, ipI, rInt1_int, rInt1_bl, tFld]
    refine ⟨WC, dx, _, ho, C.cl, C.n1, .ref a, rfl, a, rfl, us, .inl (sq_l ha), ?_⟩
    rw [hus.len]
    exact q
def spWMv (WC NS : Addr) : Sp := fun vs H Q E => ∃ (o : Addr) (v : V) (d : PyData) (srs : List (List Mv)), vs = [.ref o, v] ∧ WebAt WC H o srs ∧ Dq H v d ∧
  (∀ (k : Nat) ms, v = .int (k : Nat) → srs[k]? = some ms → ∀ (l : Addr) (us : List V) (H' : Hp), H l = none → H' l = some (.lst us) → Rw (TM H') us ms → Kp [] H H' → Q (.ref l) H') ∧
  (belowD (srs.length : Nat) d = false → ∀ (e : Addr) (H' : Hp), H e = none → H' e = some (.xd [("at", v)]) → Kp [] H H' → E (.ref NS) (some e) H')
theorem ok_Web_moves {f : Addr} {fd : FuncData} (F : Fun K "moves" "Web.moves" s_Web_moves f fd) (T : BtW mg t1) {WC NS fc : Addr} {fdc : FuncData} (C : WbC K mg WC)
    (ME_Web_check : Meth K WC "check" fc) (bM_Web_check : Binds K fdc ["self", "at"] []) (G_Web_check : FnOk P w K mg base (L2.CX P w) 3 fc fdc ["self", "at"] (spCheck WC NS)) : FnOk P w K mg base (L2.CX P w) 4 f fd ["self", "at"] (spWMv WC NS) := by
  refine F.okX sc_Web_moves (fun vs H Q E h => ?_) (fun cdv A outer s H vs Q E hr h => ?_)
  · obtain ⟨o, v, d, srs, rfl, _⟩ := h
    rfl
  · obtain ⟨o, v, d, srs, rfl, hW, hd, qG, qB⟩ := h
    refine ⟨_, (pss_cons (ps_expr (pe_meth (pv 0) C.cl ME_Web_check G_Web_check (hr.mono (by decide)) bM_Web_check .nil (passes_call (E := E) (takes_of rfl rfl rfl rfl) (fun _ _ _ _ h => h)) (pa_cons (pv 1) pa_nil)))
      (pss_one (ps_ret (pe_callTy call_list_of (by rfl) T.b_list (by decide +kernel) (pa_cons (pe_ix (r := rIxL K) ix_list (pe_fld (pv 0) rfl) (pv 1) (fun _ _ => rfl)) pa_nil))))), ?_⟩
    try simp (maxSteps := 1000000) only [tSeq, tIfS, tTest, tOp, tUn, tCB, tCons, tNil, tVar, tC, rI0, rI, rU, rEq, rNe, tRet, tRetN, tAsg, gName, gSub, tBM, tBM0, tNext, tB, tNot, tAnd, tOr, tIf, tCall, tDrop, tBreak, tCont, L2.start, tDGet, sDPut, tTup, tLst, tDNewK, tRevL, rCat, rAppend, rPop, rSetL, tAndV, tOrV, tNotV, tSl, tPart, tNoPart, tM1, gTup, gCons, gNil, cxK, cxnK, List.map_cons, List.map_nil, List.length_cons, List.length_nil, List.replicate, List.cons_append, List.nil_append, List.append_nil, List.set_cons_zero, List.set_cons_succ, List.getElem?_cons_zero, List.getElem?_cons_succ, Option.some.injEq, V.ref.injEq, V.int.injEq, V.str.injEq, V.bl.injEq, V.ty.injEq, exists_eq_left', exists_eq_left, exists_and_left, List.cons.injEq, and_true, true_and, sc_ii, sc_ss, sc_bb, sc_ni, sc_in, sc_is, sc_si, sc_nn, decide_true, decide_false, reduceCtorEq, Bool.false_eq_true, if_true, if_false, ite_true, ite_false, exists_const, eq_self, false_and, and_false, or_false, false_or, exists_false, Evl.rLenS, rSum, wipe, tYes, exists_eq, exists_eq', rIxL, rIxT, rIxS, exists_and_right, gt_iff_lt, not_true_eq_false, not_false_eq_true, Bool.not_true, Bool.not_false, decide_eq_true_eq, Nat.reduceSub, Nat.reduceAdd, List.append_assoc, tChain, tDIn, tDNotIn, sDDel, tAug, ipI, rInt1_int, rInt1_bl, tFld, tMeth]
    obtain ⟨dx, a, b, c, us, gs, hs, ho, ha, hus, hb, hgs, hc, hhs⟩ := id hW
    refine ⟨dx, _, ho, rfl, o, v, d, srs, rfl, hW, hd, fun hb => ?_, qB⟩
    obtain ⟨k, rfl, k0, k1⟩ := below_iff.mp hb
    cases hd
    obtain ⟨n, rfl⟩ := Int.eq_ofNat_of_zero_le k0
    have em : srs[n]? = some (srs[n]'(by omega)) := List.getElem?_eq_getElem _
    obtain ⟨u, eu, r, rus, rfl, hr2, hm2⟩ := hus.at em
    try simp (maxSteps := 1000000) only [tSeq, tIfS, tTest, tOp, tUn, tCB, tCons, tNil, tVar, tC, rI0, rI, rU, rEq, rNe, tRet, tRetN, tAsg, gName, gSub, tBM, tBM0, tNext, tB, tNot, tAnd, tOr, tIf, tCall, tDrop, tBreak, tCont, L2.start, tDGet, sDPut, tTup, tLst, tDNewK, tRevL, rCat, rAppend, rPop, rSetL, tAndV, tOrV, tNotV, tSl, tPart, tNoPart, tM1, gTup, gCons, gNil, cxK, cxnK, List.map_cons, List.map_nil, List.length_cons, List.length_nil, List.replicate, List.cons_append, List.nil_append, List.append_nil, List.set_cons_zero, List.set_cons_succ, List.getElem?_cons_zero, List.getElem?_cons_succ, Option.some.injEq, V.ref.injEq, V.int.injEq, V.str.injEq, V.bl.injEq, V.ty.injEq, exists_eq_left', exists_eq_left, exists_and_left, List.cons.injEq, and_true, true_and, sc_ii, sc_ss, sc_bb, sc_ni, sc_in, sc_is, sc_si, sc_nn, decide_true, decide_false, reduceCtorEq, Bool.false_eq_true, if_true, if_false, ite_true, ite_false, exists_const, eq_self, false_and, and_false, or_false, false_or, exists_false, Evl.rLenS, rSum, wipe, tYes, exists_eq, exists_eq', rIxL, rIxT, rIxS, exists_and_right, gt_iff_lt, not_true_eq_false, not_false_eq_true, Bool.not_true, Bool.not_false, decide_eq_true_eq, Nat.reduceSub, Nat.reduceAdd, List.append_assoc, tChain, tDIn, tDNotIn, sDDel, tAug, ipI, rInt1_int, rInt1_bl, tFld]
    refine ⟨WC, dx, _, ho, C.cl, C.n1, .ref a, rfl, a, rfl, us, sq_l ha, .ref r, atI_nat eu, ?_⟩
    exact ⟨r, rfl, rus, .inl (sq_l hr2), fun l nl => qG n _ rfl em l rus _ nl upd_same (rwTM hm2 (Kp.new nl).tps) (Kp.new nl)⟩
end
end My

set_option Elab.async false
set_option linter.all false
set_option maxRecDepth 100000
set_option maxHeartbeats 4000000
namespace My
open PySem L2 NdefX
abbrev s_law_same : Stmt := top 21
theorem sc_law_same : FnScope ["_law_told_here", "_law_due", "_law_k"] ["_law_told_here", "_law_due"] (defScope s_law_same) := ⟨rfl, rfl, rfl, by decide +kernel, rfl, by decide +kernel, by decide +kernel⟩
def Sca (x y : V) : Prop := (∃ i : Int, x = .int i ∧ y = .int i) ∨ (∃ b : Bool, x = .bl b ∧ y = .bl b) ∨ ∃ z : Str, x = .str z ∧ y = .str z
/-- two values that are the same to the depth d -/
def SameD : Nat → Hp → V → V → Prop
  | 0, _, x, y => Sca x y
  | d + 1, H, x, y => Sca x y ∨ ∃ (a b : Addr) (us vs : List V), x = .ref a ∧ y = .ref b ∧ ((H a = some (.lst us) ∧ H b = some (.lst vs)) ∨ (H a = some (.tup us) ∧ H b = some (.tup vs))) ∧ us.length = vs.length ∧ us.length ≤ 5000 ∧ ∀ (i : Nat) (u v : V), us[i]? = some u → vs[i]? = some v → SameD d H u v
def spSame (d : Nat) : Sp := fun vs H Q _ => ∃ (x y : V), vs = [x, y] ∧ SameD d H x y ∧ Q (.bl true) H
def spPrev : Nat → Sp
  | 0 => fun _ _ _ _ => False
  | d + 1 => spSame d
structure BtX (mg : Str → Option Value) : Prop where
  b_isinstance : mg "isinstance" = none
  b_bool : mg "bool" = none
  b_int : mg "int" = none
  b_str : mg "str" = none
  b_len : mg "len" = none
  b_range : mg "range" = none
  b_tuple : mg "tuple" = none
  b_list : mg "list" = none
section
variable {P : Program} {w : World} {K : PySem.W.Frag} {mg : Str → Option Value} {base : Heap}
theorem same_step {f : Addr} {fd : FuncData} (D_law_same : Df K mg "_law_same" s_law_same ["_law_told_here", "_law_due"] f fd) (T : BtX mg) (d : Nat) (G_law_same : FnOk P w K mg base CX0 d f fd ["_law_told_here", "_law_due"] (spPrev d)) : FnOk P w K mg base CX0 (d + 1) f fd ["_law_told_here", "_law_due"] (spSame d) := by
  have D := D_law_same
  refine D.F.ok sc_law_same (fun vs H Q E h => ?_) (fun cdv A outer s H vs Q E hr h => ?_)
  · obtain ⟨_, _, rfl, _⟩ := h
    rfl
  · obtain ⟨x, y, rfl, hs, q⟩ := h
    refine ⟨_, (pss_cons (ps_if (PW.pt (pw_or (pt_val (pe_callB (id := "isinstance") (r := rIsi K) call_isi (by rfl) T.b_isinstance (by decide +kernel) (pa_cons (pv 1) (pa_cons (pe_bltn (v := .ty "tuple") (by rfl) T.b_tuple (by decide +kernel) rfl) pa_nil)))) (pw_or1 (pt_val (pe_callB (id := "isinstance") (r := rIsi K) call_isi (by rfl) T.b_isinstance (by decide +kernel) (pa_cons (pv 1) (pa_cons (pe_bltn (v := .ty "list") (by rfl) T.b_list (by decide +kernel) rfl) pa_nil))))))) (pss_cons (ps_if (PW.pt (pw_or (pt_cmpR op_ne (pe_callB (id := "isinstance") (r := rIsi K) call_isi (by rfl) T.b_isinstance (by decide +kernel) (pa_cons (pv 1) (pa_cons (pe_bltn (v := .ty "tuple") (by rfl) T.b_tuple (by decide +kernel) rfl) pa_nil))) (pe_callB (id := "isinstance") (r := rIsi K) call_isi (by rfl) T.b_isinstance (by decide +kernel) (pa_cons (pv 0) (pa_cons (pe_bltn (v := .ty "tuple") (by rfl) T.b_tuple (by decide +kernel) rfl) pa_nil))) (nomark _)) (pw_or1 (pt_cmpR op_ne (pe_callB (id := "isinstance") (r := rIsi K) call_isi (by rfl) T.b_isinstance (by decide +kernel) (pa_cons (pv 1) (pa_cons (pe_bltn (v := .ty "list") (by rfl) T.b_list (by decide +kernel) rfl) pa_nil))) (pe_callB (id := "isinstance") (r := rIsi K) call_isi (by rfl) T.b_isinstance (by decide +kernel) (pa_cons (pv 0) (pa_cons (pe_bltn (v := .ty "list") (by rfl) T.b_list (by decide +kernel) rfl) pa_nil))) (nomark _))))) (pss_one (ps_ret pe_bl)) pss_nil)
      (pss_cons (ps_if (pt_cmpR op_ne (pe_callB (id := "len") (r := Evl.rLenS K) call_len_seq (by rfl) T.b_len PySem.boot_len (pa_cons (pv 0) pa_nil)) (pe_callB (id := "len") (r := Evl.rLenS K) call_len_seq (by rfl) T.b_len PySem.boot_len (pa_cons (pv 1) pa_nil)) (nomark _)) (pss_one (ps_ret pe_bl)) pss_nil)
      (pss_cons (ps_for PassesOwn.never rfl (pi_range1 rfl T.b_range (pa_cons (pe_callB (id := "len") (r := Evl.rLenS K) call_len_seq (by rfl) T.b_len PySem.boot_len (pa_cons (pv 1) pa_nil)) pa_nil)) (pg_name (i := 2) sc_law_same.nd rfl (Or.inl rfl)) (pss_one (ps_if (pt_not (pt_val (pe_call G_law_same (hr.mono (Nat.le_refl _)) rfl D_law_same.g D_law_same.F.kp D_law_same.b .nil pass0 (pa_cons (pe_ix (r := rIx K) ix_seq (pv 0) (pv 2) (fun _ _ => rfl)) (pa_cons (pe_ix (r := rIx K) ix_seq (pv 1) (pv 2) (fun _ _ => rfl)) pa_nil))))) (pss_one (ps_ret pe_bl)) pss_nil)))
      (pss_one (ps_ret pe_bl))))) pss_nil)
      (pss_cons (ps_if (pt_cmpR op_isN (pv 1) pe_non (nomark _)) (pss_one (ps_ret (pe_cmpR op_isN (pv 0) pe_non (nomark _)))) pss_nil)
      (pss_cons (ps_if (PW.pt (pw_or (pt_cmpR op_ne (pe_callB (id := "isinstance") (r := rIsi K) call_isi (by rfl) T.b_isinstance (by decide +kernel) (pa_cons (pv 1) (pa_cons (pe_bltn (v := .ty "bool") (by rfl) T.b_bool (by decide +kernel) rfl) pa_nil))) (pe_callB (id := "isinstance") (r := rIsi K) call_isi (by rfl) T.b_isinstance (by decide +kernel) (pa_cons (pv 0) (pa_cons (pe_bltn (v := .ty "bool") (by rfl) T.b_bool (by decide +kernel) rfl) pa_nil))) (nomark _)) (pw_or1 (pt_cmpR op_ne (pe_callB (id := "isinstance") (r := rIsi K) call_isi (by rfl) T.b_isinstance (by decide +kernel) (pa_cons (pv 1) (pa_cons (pe_bltn (v := .ty "int") (by rfl) T.b_int (by decide +kernel) rfl) pa_nil))) (pe_callB (id := "isinstance") (r := rIsi K) call_isi (by rfl) T.b_isinstance (by decide +kernel) (pa_cons (pv 0) (pa_cons (pe_bltn (v := .ty "int") (by rfl) T.b_int (by decide +kernel) rfl) pa_nil))) (nomark _))))) (pss_one (ps_ret pe_bl)) pss_nil)
      (pss_one (ps_ret (pe_and (pe_cmpR op_eq (pe_callB (id := "isinstance") (r := rIsi K) call_isi (by rfl) T.b_isinstance (by decide +kernel) (pa_cons (pv 1) (pa_cons (pe_bltn (v := .ty "str") (by rfl) T.b_str (by decide +kernel) rfl) pa_nil))) (pe_callB (id := "isinstance") (r := rIsi K) call_isi (by rfl) T.b_isinstance (by decide +kernel) (pa_cons (pv 0) (pa_cons (pe_bltn (v := .ty "str") (by rfl) T.b_str (by decide +kernel) rfl) pa_nil))) (nomark _)) (pe_one (pe_cmpR op_eq (pv 0) (pv 1) (nomark _))))))))), ?_⟩
    try simp (maxSteps := 1000000) only [tSeq, tIfS, tTest, tOp, tUn, tCB, tCons, tNil, tVar, tC, rI0, rI, rU, rEq, rNe, tRet, tRetN, tAsg, gName, gSub, tBM, tBM0, tNext, tB, tNot, tAnd, tOr, tIf, tCall, tDrop, tBreak, tCont, L2.start, tDGet, sDPut, tTup, tLst, tDNewK, tRevL, rCat, rAppend, rPop, rSetL, tAndV, tOrV, tNotV, tSl, tPart, tNoPart, tM1, gTup, gCons, gNil, cxK, cxnK, List.map_cons, List.map_nil, List.length_cons, List.length_nil, List.replicate, List.cons_append, List.nil_append, List.append_nil, List.set_cons_zero, List.set_cons_succ, List.getElem?_cons_zero, List.getElem?_cons_succ, Option.some.injEq, V.ref.injEq, V.int.injEq, V.str.injEq, V.bl.injEq, V.ty.injEq, exists_eq_left', exists_eq_left, exists_and_left, List.cons.injEq, and_true, true_and, sc_ii, sc_ss, sc_bb, sc_ni, sc_in, sc_is, sc_si, sc_nn, decide_true, decide_false, reduceCtorEq, Bool.false_eq_true, if_true, if_false, ite_true, ite_false, exists_const, eq_self, false_and, and_false, or_false, false_or, exists_false, Evl.rLenS, rSum, wipe, tYes, exists_eq, exists_eq', rIxL, rIxT, rIxS, exists_and_right, gt_iff_lt, not_true_eq_false, not_false_eq_true, Bool.not_true, Bool.not_false, decide_eq_true_eq, Nat.reduceSub, Nat.reduceAdd, List.append_assoc, tChain, tDIn, tDNotIn, sDDel, tAug, ipI, rInt1_int, rInt1_bl]
    have hint : Sca x y ∨ ∃ d', d = d' + 1 ∧ ∃ (a b : Addr) (us vs : List V), x = .ref a ∧ y = .ref b ∧ ((H a = some (.lst us) ∧ H b = some (.lst vs)) ∨ (H a = some (.tup us) ∧ H b = some (.tup vs))) ∧ us.length = vs.length ∧ us.length ≤ 5000 ∧ ∀ (i : Nat) (u v : V), us[i]? = some u → vs[i]? = some v → SameD d' H u v := by
      cases d with
      | zero => exact .inl hs
      | succ d =>
        rcases hs with h | h
        · exact .inl h
        · exact .inr ⟨d, rfl, h⟩
    rcases hint with (⟨i, rfl, rfl⟩ | ⟨i, rfl, rfl⟩ | ⟨i, rfl, rfl⟩) | ⟨d', rfl, a, b, us, vs, rfl, rfl, (⟨ha, hb⟩ | ⟨ha, hb⟩), el, l1, hi⟩
    · skip
      refine isi_mk (.int i) (b := false) (by decide +kernel) ?_
      try simp (maxSteps := 1000000) only [tSeq, tIfS, tTest, tOp, tUn, tCB, tCons, tNil, tVar, tC, rI0, rI, rU, rEq, rNe, tRet, tRetN, tAsg, gName, gSub, tBM, tBM0, tNext, tB, tNot, tAnd, tOr, tIf, tCall, tDrop, tBreak, tCont, L2.start, tDGet, sDPut, tTup, tLst, tDNewK, tRevL, rCat, rAppend, rPop, rSetL, tAndV, tOrV, tNotV, tSl, tPart, tNoPart, tM1, gTup, gCons, gNil, cxK, cxnK, List.map_cons, List.map_nil, List.length_cons, List.length_nil, List.replicate, List.cons_append, List.nil_append, List.append_nil, List.set_cons_zero, List.set_cons_succ, List.getElem?_cons_zero, List.getElem?_cons_succ, Option.some.injEq, V.ref.injEq, V.int.injEq, V.str.injEq, V.bl.injEq, V.ty.injEq, exists_eq_left', exists_eq_left, exists_and_left, List.cons.injEq, and_true, true_and, sc_ii, sc_ss, sc_bb, sc_ni, sc_in, sc_is, sc_si, sc_nn, decide_true, decide_false, reduceCtorEq, Bool.false_eq_true, if_true, if_false, ite_true, ite_false, exists_const, eq_self, false_and, and_false, or_false, false_or, exists_false, Evl.rLenS, rSum, wipe, tYes, exists_eq, exists_eq', rIxL, rIxT, rIxS, exists_and_right, gt_iff_lt, not_true_eq_false, not_false_eq_true, Bool.not_true, Bool.not_false, decide_eq_true_eq, Nat.reduceSub, Nat.reduceAdd, List.append_assoc, tChain, tDIn, tDNotIn, sDDel, tAug, ipI, rInt1_int, rInt1_bl]
      refine isi_mk (.int i) (b := false) (by decide +kernel) ?_
      try simp (maxSteps := 1000000) only [tSeq, tIfS, tTest, tOp, tUn, tCB, tCons, tNil, tVar, tC, rI0, rI, rU, rEq, rNe, tRet, tRetN, tAsg, gName, gSub, tBM, tBM0, tNext, tB, tNot, tAnd, tOr, tIf, tCall, tDrop, tBreak, tCont, L2.start, tDGet, sDPut, tTup, tLst, tDNewK, tRevL, rCat, rAppend, rPop, rSetL, tAndV, tOrV, tNotV, tSl, tPart, tNoPart, tM1, gTup, gCons, gNil, cxK, cxnK, List.map_cons, List.map_nil, List.length_cons, List.length_nil, List.replicate, List.cons_append, List.nil_append, List.append_nil, List.set_cons_zero, List.set_cons_succ, List.getElem?_cons_zero, List.getElem?_cons_succ, Option.some.injEq, V.ref.injEq, V.int.injEq, V.str.injEq, V.bl.injEq, V.ty.injEq, exists_eq_left', exists_eq_left, exists_and_left, List.cons.injEq, and_true, true_and, sc_ii, sc_ss, sc_bb, sc_ni, sc_in, sc_is, sc_si, sc_nn, decide_true, decide_false, reduceCtorEq, Bool.false_eq_true, if_true, if_false, ite_true, ite_false, exists_const, eq_self, false_and, and_false, or_false, false_or, exists_false, Evl.rLenS, rSum, wipe, tYes, exists_eq, exists_eq', rIxL, rIxT, rIxS, exists_and_right, gt_iff_lt, not_true_eq_false, not_false_eq_true, Bool.not_true, Bool.not_false, decide_eq_true_eq, Nat.reduceSub, Nat.reduceAdd, List.append_assoc, tChain, tDIn, tDNotIn, sDDel, tAug, ipI, rInt1_int, rInt1_bl]
      refine isi_mk (.int i) (b := false) (by decide +kernel) ?_
      try simp (maxSteps := 1000000) only [tSeq, tIfS, tTest, tOp, tUn, tCB, tCons, tNil, tVar, tC, rI0, rI, rU, rEq, rNe, tRet, tRetN, tAsg, gName, gSub, tBM, tBM0, tNext, tB, tNot, tAnd, tOr, tIf, tCall, tDrop, tBreak, tCont, L2.start, tDGet, sDPut, tTup, tLst, tDNewK, tRevL, rCat, rAppend, rPop, rSetL, tAndV, tOrV, tNotV, tSl, tPart, tNoPart, tM1, gTup, gCons, gNil, cxK, cxnK, List.map_cons, List.map_nil, List.length_cons, List.length_nil, List.replicate, List.cons_append, List.nil_append, List.append_nil, List.set_cons_zero, List.set_cons_succ, List.getElem?_cons_zero, List.getElem?_cons_succ, Option.some.injEq, V.ref.injEq, V.int.injEq, V.str.injEq, V.bl.injEq, V.ty.injEq, exists_eq_left', exists_eq_left, exists_and_left, List.cons.injEq, and_true, true_and, sc_ii, sc_ss, sc_bb, sc_ni, sc_in, sc_is, sc_si, sc_nn, decide_true, decide_false, reduceCtorEq, Bool.false_eq_true, if_true, if_false, ite_true, ite_false, exists_const, eq_self, false_and, and_false, or_false, false_or, exists_false, Evl.rLenS, rSum, wipe, tYes, exists_eq, exists_eq', rIxL, rIxT, rIxS, exists_and_right, gt_iff_lt, not_true_eq_false, not_false_eq_true, Bool.not_true, Bool.not_false, decide_eq_true_eq, Nat.reduceSub, Nat.reduceAdd, List.append_assoc, tChain, tDIn, tDNotIn, sDDel, tAug, ipI, rInt1_int, rInt1_bl]
      refine isi_mk (.int i) (b := false) (by decide +kernel) ?_
      try simp (maxSteps := 1000000) only [tSeq, tIfS, tTest, tOp, tUn, tCB, tCons, tNil, tVar, tC, rI0, rI, rU, rEq, rNe, tRet, tRetN, tAsg, gName, gSub, tBM, tBM0, tNext, tB, tNot, tAnd, tOr, tIf, tCall, tDrop, tBreak, tCont, L2.start, tDGet, sDPut, tTup, tLst, tDNewK, tRevL, rCat, rAppend, rPop, rSetL, tAndV, tOrV, tNotV, tSl, tPart, tNoPart, tM1, gTup, gCons, gNil, cxK, cxnK, List.map_cons, List.map_nil, List.length_cons, List.length_nil, List.replicate, List.cons_append, List.nil_append, List.append_nil, List.set_cons_zero, List.set_cons_succ, List.getElem?_cons_zero, List.getElem?_cons_succ, Option.some.injEq, V.ref.injEq, V.int.injEq, V.str.injEq, V.bl.injEq, V.ty.injEq, exists_eq_left', exists_eq_left, exists_and_left, List.cons.injEq, and_true, true_and, sc_ii, sc_ss, sc_bb, sc_ni, sc_in, sc_is, sc_si, sc_nn, decide_true, decide_false, reduceCtorEq, Bool.false_eq_true, if_true, if_false, ite_true, ite_false, exists_const, eq_self, false_and, and_false, or_false, false_or, exists_false, Evl.rLenS, rSum, wipe, tYes, exists_eq, exists_eq', rIxL, rIxT, rIxS, exists_and_right, gt_iff_lt, not_true_eq_false, not_false_eq_true, Bool.not_true, Bool.not_false, decide_eq_true_eq, Nat.reduceSub, Nat.reduceAdd, List.append_assoc, tChain, tDIn, tDNotIn, sDDel, tAug, ipI, rInt1_int, rInt1_bl]
      refine isi_mk (.int i) (b := true) (by decide +kernel) ?_
      try simp (maxSteps := 1000000) only [tSeq, tIfS, tTest, tOp, tUn, tCB, tCons, tNil, tVar, tC, rI0, rI, rU, rEq, rNe, tRet, tRetN, tAsg, gName, gSub, tBM, tBM0, tNext, tB, tNot, tAnd, tOr, tIf, tCall, tDrop, tBreak, tCont, L2.start, tDGet, sDPut, tTup, tLst, tDNewK, tRevL, rCat, rAppend, rPop, rSetL, tAndV, tOrV, tNotV, tSl, tPart, tNoPart, tM1, gTup, gCons, gNil, cxK, cxnK, List.map_cons, List.map_nil, List.length_cons, List.length_nil, List.replicate, List.cons_append, List.nil_append, List.append_nil, List.set_cons_zero, List.set_cons_succ, List.getElem?_cons_zero, List.getElem?_cons_succ, Option.some.injEq, V.ref.injEq, V.int.injEq, V.str.injEq, V.bl.injEq, V.ty.injEq, exists_eq_left', exists_eq_left, exists_and_left, List.cons.injEq, and_true, true_and, sc_ii, sc_ss, sc_bb, sc_ni, sc_in, sc_is, sc_si, sc_nn, decide_true, decide_false, reduceCtorEq, Bool.false_eq_true, if_true, if_false, ite_true, ite_false, exists_const, eq_self, false_and, and_false, or_false, false_or, exists_false, Evl.rLenS, rSum, wipe, tYes, exists_eq, exists_eq', rIxL, rIxT, rIxS, exists_and_right, gt_iff_lt, not_true_eq_false, not_false_eq_true, Bool.not_true, Bool.not_false, decide_eq_true_eq, Nat.reduceSub, Nat.reduceAdd, List.append_assoc, tChain, tDIn, tDNotIn, sDDel, tAug, ipI, rInt1_int, rInt1_bl]
      refine isi_mk (.int i) (b := true) (by decide +kernel) ?_
      try simp (maxSteps := 1000000) only [tSeq, tIfS, tTest, tOp, tUn, tCB, tCons, tNil, tVar, tC, rI0, rI, rU, rEq, rNe, tRet, tRetN, tAsg, gName, gSub, tBM, tBM0, tNext, tB, tNot, tAnd, tOr, tIf, tCall, tDrop, tBreak, tCont, L2.start, tDGet, sDPut, tTup, tLst, tDNewK, tRevL, rCat, rAppend, rPop, rSetL, tAndV, tOrV, tNotV, tSl, tPart, tNoPart, tM1, gTup, gCons, gNil, cxK, cxnK, List.map_cons, List.map_nil, List.length_cons, List.length_nil, List.replicate, List.cons_append, List.nil_append, List.append_nil, List.set_cons_zero, List.set_cons_succ, List.getElem?_cons_zero, List.getElem?_cons_succ, Option.some.injEq, V.ref.injEq, V.int.injEq, V.str.injEq, V.bl.injEq, V.ty.injEq, exists_eq_left', exists_eq_left, exists_and_left, List.cons.injEq, and_true, true_and, sc_ii, sc_ss, sc_bb, sc_ni, sc_in, sc_is, sc_si, sc_nn, decide_true, decide_false, reduceCtorEq, Bool.false_eq_true, if_true, if_false, ite_true, ite_false, exists_const, eq_self, false_and, and_false, or_false, false_or, exists_false, Evl.rLenS, rSum, wipe, tYes, exists_eq, exists_eq', rIxL, rIxT, rIxS, exists_and_right, gt_iff_lt, not_true_eq_false, not_false_eq_true, Bool.not_true, Bool.not_false, decide_eq_true_eq, Nat.reduceSub, Nat.reduceAdd, List.append_assoc, tChain, tDIn, tDNotIn, sDDel, tAug, ipI, rInt1_int, rInt1_bl]
      refine isi_mk (.int i) (b := false) (by decide +kernel) ?_
      try simp (maxSteps := 1000000) only [tSeq, tIfS, tTest, tOp, tUn, tCB, tCons, tNil, tVar, tC, rI0, rI, rU, rEq, rNe, tRet, tRetN, tAsg, gName, gSub, tBM, tBM0, tNext, tB, tNot, tAnd, tOr, tIf, tCall, tDrop, tBreak, tCont, L2.start, tDGet, sDPut, tTup, tLst, tDNewK, tRevL, rCat, rAppend, rPop, rSetL, tAndV, tOrV, tNotV, tSl, tPart, tNoPart, tM1, gTup, gCons, gNil, cxK, cxnK, List.map_cons, List.map_nil, List.length_cons, List.length_nil, List.replicate, List.cons_append, List.nil_append, List.append_nil, List.set_cons_zero, List.set_cons_succ, List.getElem?_cons_zero, List.getElem?_cons_succ, Option.some.injEq, V.ref.injEq, V.int.injEq, V.str.injEq, V.bl.injEq, V.ty.injEq, exists_eq_left', exists_eq_left, exists_and_left, List.cons.injEq, and_true, true_and, sc_ii, sc_ss, sc_bb, sc_ni, sc_in, sc_is, sc_si, sc_nn, decide_true, decide_false, reduceCtorEq, Bool.false_eq_true, if_true, if_false, ite_true, ite_false, exists_const, eq_self, false_and, and_false, or_false, false_or, exists_false, Evl.rLenS, rSum, wipe, tYes, exists_eq, exists_eq', rIxL, rIxT, rIxS, exists_and_right, gt_iff_lt, not_true_eq_false, not_false_eq_true, Bool.not_true, Bool.not_false, decide_eq_true_eq, Nat.reduceSub, Nat.reduceAdd, List.append_assoc, tChain, tDIn, tDNotIn, sDDel, tAug, ipI, rInt1_int, rInt1_bl]
      refine isi_mk (.int i) (b := false) (by decide +kernel) ?_
      try simp (maxSteps := 1000000) only [tSeq, tIfS, tTest, tOp, tUn, tCB, tCons, tNil, tVar, tC, rI0, rI, rU, rEq, rNe, tRet, tRetN, tAsg, gName, gSub, tBM, tBM0, tNext, tB, tNot, tAnd, tOr, tIf, tCall, tDrop, tBreak, tCont, L2.start, tDGet, sDPut, tTup, tLst, tDNewK, tRevL, rCat, rAppend, rPop, rSetL, tAndV, tOrV, tNotV, tSl, tPart, tNoPart, tM1, gTup, gCons, gNil, cxK, cxnK, List.map_cons, List.map_nil, List.length_cons, List.length_nil, List.replicate, List.cons_append, List.nil_append, List.append_nil, List.set_cons_zero, List.set_cons_succ, List.getElem?_cons_zero, List.getElem?_cons_succ, Option.some.injEq, V.ref.injEq, V.int.injEq, V.str.injEq, V.bl.injEq, V.ty.injEq, exists_eq_left', exists_eq_left, exists_and_left, List.cons.injEq, and_true, true_and, sc_ii, sc_ss, sc_bb, sc_ni, sc_in, sc_is, sc_si, sc_nn, decide_true, decide_false, reduceCtorEq, Bool.false_eq_true, if_true, if_false, ite_true, ite_false, exists_const, eq_self, false_and, and_false, or_false, false_or, exists_false, Evl.rLenS, rSum, wipe, tYes, exists_eq, exists_eq', rIxL, rIxT, rIxS, exists_and_right, gt_iff_lt, not_true_eq_false, not_false_eq_true, Bool.not_true, Bool.not_false, decide_eq_true_eq, Nat.reduceSub, Nat.reduceAdd, List.append_assoc, tChain, tDIn, tDNotIn, sDDel, tAug, ipI, rInt1_int, rInt1_bl]
      exact q
    · skip
      refine isi_mk (.bl i) (b := false) (by decide +kernel) ?_
      try simp (maxSteps := 1000000) only [tSeq, tIfS, tTest, tOp, tUn, tCB, tCons, tNil, tVar, tC, rI0, rI, rU, rEq, rNe, tRet, tRetN, tAsg, gName, gSub, tBM, tBM0, tNext, tB, tNot, tAnd, tOr, tIf, tCall, tDrop, tBreak, tCont, L2.start, tDGet, sDPut, tTup, tLst, tDNewK, tRevL, rCat, rAppend, rPop, rSetL, tAndV, tOrV, tNotV, tSl, tPart, tNoPart, tM1, gTup, gCons, gNil, cxK, cxnK, List.map_cons, List.map_nil, List.length_cons, List.length_nil, List.replicate, List.cons_append, List.nil_append, List.append_nil, List.set_cons_zero, List.set_cons_succ, List.getElem?_cons_zero, List.getElem?_cons_succ, Option.some.injEq, V.ref.injEq, V.int.injEq, V.str.injEq, V.bl.injEq, V.ty.injEq, exists_eq_left', exists_eq_left, exists_and_left, List.cons.injEq, and_true, true_and, sc_ii, sc_ss, sc_bb, sc_ni, sc_in, sc_is, sc_si, sc_nn, decide_true, decide_false, reduceCtorEq, Bool.false_eq_true, if_true, if_false, ite_true, ite_false, exists_const, eq_self, false_and, and_false, or_false, false_or, exists_false, Evl.rLenS, rSum, wipe, tYes, exists_eq, exists_eq', rIxL, rIxT, rIxS, exists_and_right, gt_iff_lt, not_true_eq_false, not_false_eq_true, Bool.not_true, Bool.not_false, decide_eq_true_eq, Nat.reduceSub, Nat.reduceAdd, List.append_assoc, tChain, tDIn, tDNotIn, sDDel, tAug, ipI, rInt1_int, rInt1_bl]
      refine isi_mk (.bl i) (b := false) (by decide +kernel) ?_
      try simp (maxSteps := 1000000) only [tSeq, tIfS, tTest, tOp, tUn, tCB, tCons, tNil, tVar, tC, rI0, rI, rU, rEq, rNe, tRet, tRetN, tAsg, gName, gSub, tBM, tBM0, tNext, tB, tNot, tAnd, tOr, tIf, tCall, tDrop, tBreak, tCont, L2.start, tDGet, sDPut, tTup, tLst, tDNewK, tRevL, rCat, rAppend, rPop, rSetL, tAndV, tOrV, tNotV, tSl, tPart, tNoPart, tM1, gTup, gCons, gNil, cxK, cxnK, List.map_cons, List.map_nil, List.length_cons, List.length_nil, List.replicate, List.cons_append, List.nil_append, List.append_nil, List.set_cons_zero, List.set_cons_succ, List.getElem?_cons_zero, List.getElem?_cons_succ, Option.some.injEq, V.ref.injEq, V.int.injEq, V.str.injEq, V.bl.injEq, V.ty.injEq, exists_eq_left', exists_eq_left, exists_and_left, List.cons.injEq, and_true, true_and, sc_ii, sc_ss, sc_bb, sc_ni, sc_in, sc_is, sc_si, sc_nn, decide_true, decide_false, reduceCtorEq, Bool.false_eq_true, if_true, if_false, ite_true, ite_false, exists_const, eq_self, false_and, and_false, or_false, false_or, exists_false, Evl.rLenS, rSum, wipe, tYes, exists_eq, exists_eq', rIxL, rIxT, rIxS, exists_and_right, gt_iff_lt, not_true_eq_false, not_false_eq_true, Bool.not_true, Bool.not_false, decide_eq_true_eq, Nat.reduceSub, Nat.reduceAdd, List.append_assoc, tChain, tDIn, tDNotIn, sDDel, tAug, ipI, rInt1_int, rInt1_bl]
      refine isi_mk (.bl i) (b := true) (by decide +kernel) ?_
      try simp (maxSteps := 1000000) only [tSeq, tIfS, tTest, tOp, tUn, tCB, tCons, tNil, tVar, tC, rI0, rI, rU, rEq, rNe, tRet, tRetN, tAsg, gName, gSub, tBM, tBM0, tNext, tB, tNot, tAnd, tOr, tIf, tCall, tDrop, tBreak, tCont, L2.start, tDGet, sDPut, tTup, tLst, tDNewK, tRevL, rCat, rAppend, rPop, rSetL, tAndV, tOrV, tNotV, tSl, tPart, tNoPart, tM1, gTup, gCons, gNil, cxK, cxnK, List.map_cons, List.map_nil, List.length_cons, List.length_nil, List.replicate, List.cons_append, List.nil_append, List.append_nil, List.set_cons_zero, List.set_cons_succ, List.getElem?_cons_zero, List.getElem?_cons_succ, Option.some.injEq, V.ref.injEq, V.int.injEq, V.str.injEq, V.bl.injEq, V.ty.injEq, exists_eq_left', exists_eq_left, exists_and_left, List.cons.injEq, and_true, true_and, sc_ii, sc_ss, sc_bb, sc_ni, sc_in, sc_is, sc_si, sc_nn, decide_true, decide_false, reduceCtorEq, Bool.false_eq_true, if_true, if_false, ite_true, ite_false, exists_const, eq_self, false_and, and_false, or_false, false_or, exists_false, Evl.rLenS, rSum, wipe, tYes, exists_eq, exists_eq', rIxL, rIxT, rIxS, exists_and_right, gt_iff_lt, not_true_eq_false, not_false_eq_true, Bool.not_true, Bool.not_false, decide_eq_true_eq, Nat.reduceSub, Nat.reduceAdd, List.append_assoc, tChain, tDIn, tDNotIn, sDDel, tAug, ipI, rInt1_int, rInt1_bl]
      refine isi_mk (.bl i) (b := true) (by decide +kernel) ?_
      try simp (maxSteps := 1000000) only [tSeq, tIfS, tTest, tOp, tUn, tCB, tCons, tNil, tVar, tC, rI0, rI, rU, rEq, rNe, tRet, tRetN, tAsg, gName, gSub, tBM, tBM0, tNext, tB, tNot, tAnd, tOr, tIf, tCall, tDrop, tBreak, tCont, L2.start, tDGet, sDPut, tTup, tLst, tDNewK, tRevL, rCat, rAppend, rPop, rSetL, tAndV, tOrV, tNotV, tSl, tPart, tNoPart, tM1, gTup, gCons, gNil, cxK, cxnK, List.map_cons, List.map_nil, List.length_cons, List.length_nil, List.replicate, List.cons_append, List.nil_append, List.append_nil, List.set_cons_zero, List.set_cons_succ, List.getElem?_cons_zero, List.getElem?_cons_succ, Option.some.injEq, V.ref.injEq, V.int.injEq, V.str.injEq, V.bl.injEq, V.ty.injEq, exists_eq_left', exists_eq_left, exists_and_left, List.cons.injEq, and_true, true_and, sc_ii, sc_ss, sc_bb, sc_ni, sc_in, sc_is, sc_si, sc_nn, decide_true, decide_false, reduceCtorEq, Bool.false_eq_true, if_true, if_false, ite_true, ite_false, exists_const, eq_self, false_and, and_false, or_false, false_or, exists_false, Evl.rLenS, rSum, wipe, tYes, exists_eq, exists_eq', rIxL, rIxT, rIxS, exists_and_right, gt_iff_lt, not_true_eq_false, not_false_eq_true, Bool.not_true, Bool.not_false, decide_eq_true_eq, Nat.reduceSub, Nat.reduceAdd, List.append_assoc, tChain, tDIn, tDNotIn, sDDel, tAug, ipI, rInt1_int, rInt1_bl]
      refine isi_mk (.bl i) (b := true) (by decide +kernel) ?_
      try simp (maxSteps := 1000000) only [tSeq, tIfS, tTest, tOp, tUn, tCB, tCons, tNil, tVar, tC, rI0, rI, rU, rEq, rNe, tRet, tRetN, tAsg, gName, gSub, tBM, tBM0, tNext, tB, tNot, tAnd, tOr, tIf, tCall, tDrop, tBreak, tCont, L2.start, tDGet, sDPut, tTup, tLst, tDNewK, tRevL, rCat, rAppend, rPop, rSetL, tAndV, tOrV, tNotV, tSl, tPart, tNoPart, tM1, gTup, gCons, gNil, cxK, cxnK, List.map_cons, List.map_nil, List.length_cons, List.length_nil, List.replicate, List.cons_append, List.nil_append, List.append_nil, List.set_cons_zero, List.set_cons_succ, List.getElem?_cons_zero, List.getElem?_cons_succ, Option.some.injEq, V.ref.injEq, V.int.injEq, V.str.injEq, V.bl.injEq, V.ty.injEq, exists_eq_left', exists_eq_left, exists_and_left, List.cons.injEq, and_true, true_and, sc_ii, sc_ss, sc_bb, sc_ni, sc_in, sc_is, sc_si, sc_nn, decide_true, decide_false, reduceCtorEq, Bool.false_eq_true, if_true, if_false, ite_true, ite_false, exists_const, eq_self, false_and, and_false, or_false, false_or, exists_false, Evl.rLenS, rSum, wipe, tYes, exists_eq, exists_eq', rIxL, rIxT, rIxS, exists_and_right, gt_iff_lt, not_true_eq_false, not_false_eq_true, Bool.not_true, Bool.not_false, decide_eq_true_eq, Nat.reduceSub, Nat.reduceAdd, List.append_assoc, tChain, tDIn, tDNotIn, sDDel, tAug, ipI, rInt1_int, rInt1_bl]
      refine isi_mk (.bl i) (b := true) (by decide +kernel) ?_
      try simp (maxSteps := 1000000) only [tSeq, tIfS, tTest, tOp, tUn, tCB, tCons, tNil, tVar, tC, rI0, rI, rU, rEq, rNe, tRet, tRetN, tAsg, gName, gSub, tBM, tBM0, tNext, tB, tNot, tAnd, tOr, tIf, tCall, tDrop, tBreak, tCont, L2.start, tDGet, sDPut, tTup, tLst, tDNewK, tRevL, rCat, rAppend, rPop, rSetL, tAndV, tOrV, tNotV, tSl, tPart, tNoPart, tM1, gTup, gCons, gNil, cxK, cxnK, List.map_cons, List.map_nil, List.length_cons, List.length_nil, List.replicate, List.cons_append, List.nil_append, List.append_nil, List.set_cons_zero, List.set_cons_succ, List.getElem?_cons_zero, List.getElem?_cons_succ, Option.some.injEq, V.ref.injEq, V.int.injEq, V.str.injEq, V.bl.injEq, V.ty.injEq, exists_eq_left', exists_eq_left, exists_and_left, List.cons.injEq, and_true, true_and, sc_ii, sc_ss, sc_bb, sc_ni, sc_in, sc_is, sc_si, sc_nn, decide_true, decide_false, reduceCtorEq, Bool.false_eq_true, if_true, if_false, ite_true, ite_false, exists_const, eq_self, false_and, and_false, or_false, false_or, exists_false, Evl.rLenS, rSum, wipe, tYes, exists_eq, exists_eq', rIxL, rIxT, rIxS, exists_and_right, gt_iff_lt, not_true_eq_false, not_false_eq_true, Bool.not_true, Bool.not_false, decide_eq_true_eq, Nat.reduceSub, Nat.reduceAdd, List.append_assoc, tChain, tDIn, tDNotIn, sDDel, tAug, ipI, rInt1_int, rInt1_bl]
      refine isi_mk (.bl i) (b := false) (by decide +kernel) ?_
      try simp (maxSteps := 1000000) only [tSeq, tIfS, tTest, tOp, tUn, tCB, tCons, tNil, tVar, tC, rI0, rI, rU, rEq, rNe, tRet, tRetN, tAsg, gName, gSub, tBM, tBM0, tNext, tB, tNot, tAnd, tOr, tIf, tCall, tDrop, tBreak, tCont, L2.start, tDGet, sDPut, tTup, tLst, tDNewK, tRevL, rCat, rAppend, rPop, rSetL, tAndV, tOrV, tNotV, tSl, tPart, tNoPart, tM1, gTup, gCons, gNil, cxK, cxnK, List.map_cons, List.map_nil, List.length_cons, List.length_nil, List.replicate, List.cons_append, List.nil_append, List.append_nil, List.set_cons_zero, List.set_cons_succ, List.getElem?_cons_zero, List.getElem?_cons_succ, Option.some.injEq, V.ref.injEq, V.int.injEq, V.str.injEq, V.bl.injEq, V.ty.injEq, exists_eq_left', exists_eq_left, exists_and_left, List.cons.injEq, and_true, true_and, sc_ii, sc_ss, sc_bb, sc_ni, sc_in, sc_is, sc_si, sc_nn, decide_true, decide_false, reduceCtorEq, Bool.false_eq_true, if_true, if_false, ite_true, ite_false, exists_const, eq_self, false_and, and_false, or_false, false_or, exists_false, Evl.rLenS, rSum, wipe, tYes, exists_eq, exists_eq', rIxL, rIxT, rIxS, exists_and_right, gt_iff_lt, not_true_eq_false, not_false_eq_true, Bool.not_true, Bool.not_false, decide_eq_true_eq, Nat.reduceSub, Nat.reduceAdd, List.append_assoc, tChain, tDIn, tDNotIn, sDDel, tAug, ipI, rInt1_int, rInt1_bl]
      refine isi_mk (.bl i) (b := false) (by decide +kernel) ?_
      try simp (maxSteps := 1000000) only [tSeq, tIfS, tTest, tOp, tUn, tCB, tCons, tNil, tVar, tC, rI0, rI, rU, rEq, rNe, tRet, tRetN, tAsg, gName, gSub, tBM, tBM0, tNext, tB, tNot, tAnd, tOr, tIf, tCall, tDrop, tBreak, tCont, L2.start, tDGet, sDPut, tTup, tLst, tDNewK, tRevL, rCat, rAppend, rPop, rSetL, tAndV, tOrV, tNotV, tSl, tPart, tNoPart, tM1, gTup, gCons, gNil, cxK, cxnK, List.map_cons, List.map_nil, List.length_cons, List.length_nil, List.replicate, List.cons_append, List.nil_append, List.append_nil, List.set_cons_zero, List.set_cons_succ, List.getElem?_cons_zero, List.getElem?_cons_succ, Option.some.injEq, V.ref.injEq, V.int.injEq, V.str.injEq, V.bl.injEq, V.ty.injEq, exists_eq_left', exists_eq_left, exists_and_left, List.cons.injEq, and_true, true_and, sc_ii, sc_ss, sc_bb, sc_ni, sc_in, sc_is, sc_si, sc_nn, decide_true, decide_false, reduceCtorEq, Bool.false_eq_true, if_true, if_false, ite_true, ite_false, exists_const, eq_self, false_and, and_false, or_false, false_or, exists_false, Evl.rLenS, rSum, wipe, tYes, exists_eq, exists_eq', rIxL, rIxT, rIxS, exists_and_right, gt_iff_lt, not_true_eq_false, not_false_eq_true, Bool.not_true, Bool.not_false, decide_eq_true_eq, Nat.reduceSub, Nat.reduceAdd, List.append_assoc, tChain, tDIn, tDNotIn, sDDel, tAug, ipI, rInt1_int, rInt1_bl]
      exact q
    · skip
      refine isi_mk (.str i) (b := false) (by decide +kernel) ?_
      try simp (maxSteps := 1000000) only [tSeq, tIfS, tTest, tOp, tUn, tCB, tCons, tNil, tVar, tC, rI0, rI, rU, rEq, rNe, tRet, tRetN, tAsg, gName, gSub, tBM, tBM0, tNext, tB, tNot, tAnd, tOr, tIf, tCall, tDrop, tBreak, tCont, L2.start, tDGet, sDPut, tTup, tLst, tDNewK, tRevL, rCat, rAppend, rPop, rSetL, tAndV, tOrV, tNotV, tSl, tPart, tNoPart, tM1, gTup, gCons, gNil, cxK, cxnK, List.map_cons, List.map_nil, List.length_cons, List.length_nil, List.replicate, List.cons_append, List.nil_append, List.append_nil, List.set_cons_zero, List.set_cons_succ, List.getElem?_cons_zero, List.getElem?_cons_succ, Option.some.injEq, V.ref.injEq, V.int.injEq, V.str.injEq, V.bl.injEq, V.ty.injEq, exists_eq_left', exists_eq_left, exists_and_left, List.cons.injEq, and_true, true_and, sc_ii, sc_ss, sc_bb, sc_ni, sc_in, sc_is, sc_si, sc_nn, decide_true, decide_false, reduceCtorEq, Bool.false_eq_true, if_true, if_false, ite_true, ite_false, exists_const, eq_self, false_and, and_false, or_false, false_or, exists_false, Evl.rLenS, rSum, wipe, tYes, exists_eq, exists_eq', rIxL, rIxT, rIxS, exists_and_right, gt_iff_lt, not_true_eq_false, not_false_eq_true, Bool.not_true, Bool.not_false, decide_eq_true_eq, Nat.reduceSub, Nat.reduceAdd, List.append_assoc, tChain, tDIn, tDNotIn, sDDel, tAug, ipI, rInt1_int, rInt1_bl]
      refine isi_mk (.str i) (b := false) (by decide +kernel) ?_
      try simp (maxSteps := 1000000) only [tSeq, tIfS, tTest, tOp, tUn, tCB, tCons, tNil, tVar, tC, rI0, rI, rU, rEq, rNe, tRet, tRetN, tAsg, gName, gSub, tBM, tBM0, tNext, tB, tNot, tAnd, tOr, tIf, tCall, tDrop, tBreak, tCont, L2.start, tDGet, sDPut, tTup, tLst, tDNewK, tRevL, rCat, rAppend, rPop, rSetL, tAndV, tOrV, tNotV, tSl, tPart, tNoPart, tM1, gTup, gCons, gNil, cxK, cxnK, List.map_cons, List.map_nil, List.length_cons, List.length_nil, List.replicate, List.cons_append, List.nil_append, List.append_nil, List.set_cons_zero, List.set_cons_succ, List.getElem?_cons_zero, List.getElem?_cons_succ, Option.some.injEq, V.ref.injEq, V.int.injEq, V.str.injEq, V.bl.injEq, V.ty.injEq, exists_eq_left', exists_eq_left, exists_and_left, List.cons.injEq, and_true, true_and, sc_ii, sc_ss, sc_bb, sc_ni, sc_in, sc_is, sc_si, sc_nn, decide_true, decide_false, reduceCtorEq, Bool.false_eq_true, if_true, if_false, ite_true, ite_false, exists_const, eq_self, false_and, and_false, or_false, false_or, exists_false, Evl.rLenS, rSum, wipe, tYes, exists_eq, exists_eq', rIxL, rIxT, rIxS, exists_and_right, gt_iff_lt, not_true_eq_false, not_false_eq_true, Bool.not_true, Bool.not_false, decide_eq_true_eq, Nat.reduceSub, Nat.reduceAdd, List.append_assoc, tChain, tDIn, tDNotIn, sDDel, tAug, ipI, rInt1_int, rInt1_bl]
      refine isi_mk (.str i) (b := false) (by decide +kernel) ?_
      try simp (maxSteps := 1000000) only [tSeq, tIfS, tTest, tOp, tUn, tCB, tCons, tNil, tVar, tC, rI0, rI, rU, rEq, rNe, tRet, tRetN, tAsg, gName, gSub, tBM, tBM0, tNext, tB, tNot, tAnd, tOr, tIf, tCall, tDrop, tBreak, tCont, L2.start, tDGet, sDPut, tTup, tLst, tDNewK, tRevL, rCat, rAppend, rPop, rSetL, tAndV, tOrV, tNotV, tSl, tPart, tNoPart, tM1, gTup, gCons, gNil, cxK, cxnK, List.map_cons, List.map_nil, List.length_cons, List.length_nil, List.replicate, List.cons_append, List.nil_append, List.append_nil, List.set_cons_zero, List.set_cons_succ, List.getElem?_cons_zero, List.getElem?_cons_succ, Option.some.injEq, V.ref.injEq, V.int.injEq, V.str.injEq, V.bl.injEq, V.ty.injEq, exists_eq_left', exists_eq_left, exists_and_left, List.cons.injEq, and_true, true_and, sc_ii, sc_ss, sc_bb, sc_ni, sc_in, sc_is, sc_si, sc_nn, decide_true, decide_false, reduceCtorEq, Bool.false_eq_true, if_true, if_false, ite_true, ite_false, exists_const, eq_self, false_and, and_false, or_false, false_or, exists_false, Evl.rLenS, rSum, wipe, tYes, exists_eq, exists_eq', rIxL, rIxT, rIxS, exists_and_right, gt_iff_lt, not_true_eq_false, not_false_eq_true, Bool.not_true, Bool.not_false, decide_eq_true_eq, Nat.reduceSub, Nat.reduceAdd, List.append_assoc, tChain, tDIn, tDNotIn, sDDel, tAug, ipI, rInt1_int, rInt1_bl]
      refine isi_mk (.str i) (b := false) (by decide +kernel) ?_
      try simp (maxSteps := 1000000) only [tSeq, tIfS, tTest, tOp, tUn, tCB, tCons, tNil, tVar, tC, rI0, rI, rU, rEq, rNe, tRet, tRetN, tAsg, gName, gSub, tBM, tBM0, tNext, tB, tNot, tAnd, tOr, tIf, tCall, tDrop, tBreak, tCont, L2.start, tDGet, sDPut, tTup, tLst, tDNewK, tRevL, rCat, rAppend, rPop, rSetL, tAndV, tOrV, tNotV, tSl, tPart, tNoPart, tM1, gTup, gCons, gNil, cxK, cxnK, List.map_cons, List.map_nil, List.length_cons, List.length_nil, List.replicate, List.cons_append, List.nil_append, List.append_nil, List.set_cons_zero, List.set_cons_succ, List.getElem?_cons_zero, List.getElem?_cons_succ, Option.some.injEq, V.ref.injEq, V.int.injEq, V.str.injEq, V.bl.injEq, V.ty.injEq, exists_eq_left', exists_eq_left, exists_and_left, List.cons.injEq, and_true, true_and, sc_ii, sc_ss, sc_bb, sc_ni, sc_in, sc_is, sc_si, sc_nn, decide_true, decide_false, reduceCtorEq, Bool.false_eq_true, if_true, if_false, ite_true, ite_false, exists_const, eq_self, false_and, and_false, or_false, false_or, exists_false, Evl.rLenS, rSum, wipe, tYes, exists_eq, exists_eq', rIxL, rIxT, rIxS, exists_and_right, gt_iff_lt, not_true_eq_false, not_false_eq_true, Bool.not_true, Bool.not_false, decide_eq_true_eq, Nat.reduceSub, Nat.reduceAdd, List.append_assoc, tChain, tDIn, tDNotIn, sDDel, tAug, ipI, rInt1_int, rInt1_bl]
      refine isi_mk (.str i) (b := false) (by decide +kernel) ?_
      try simp (maxSteps := 1000000) only [tSeq, tIfS, tTest, tOp, tUn, tCB, tCons, tNil, tVar, tC, rI0, rI, rU, rEq, rNe, tRet, tRetN, tAsg, gName, gSub, tBM, tBM0, tNext, tB, tNot, tAnd, tOr, tIf, tCall, tDrop, tBreak, tCont, L2.start, tDGet, sDPut, tTup, tLst, tDNewK, tRevL, rCat, rAppend, rPop, rSetL, tAndV, tOrV, tNotV, tSl, tPart, tNoPart, tM1, gTup, gCons, gNil, cxK, cxnK, List.map_cons, List.map_nil, List.length_cons, List.length_nil, List.replicate, List.cons_append, List.nil_append, List.append_nil, List.set_cons_zero, List.set_cons_succ, List.getElem?_cons_zero, List.getElem?_cons_succ, Option.some.injEq, V.ref.injEq, V.int.injEq, V.str.injEq, V.bl.injEq, V.ty.injEq, exists_eq_left', exists_eq_left, exists_and_left, List.cons.injEq, and_true, true_and, sc_ii, sc_ss, sc_bb, sc_ni, sc_in, sc_is, sc_si, sc_nn, decide_true, decide_false, reduceCtorEq, Bool.false_eq_true, if_true, if_false, ite_true, ite_false, exists_const, eq_self, false_and, and_false, or_false, false_or, exists_false, Evl.rLenS, rSum, wipe, tYes, exists_eq, exists_eq', rIxL, rIxT, rIxS, exists_and_right, gt_iff_lt, not_true_eq_false, not_false_eq_true, Bool.not_true, Bool.not_false, decide_eq_true_eq, Nat.reduceSub, Nat.reduceAdd, List.append_assoc, tChain, tDIn, tDNotIn, sDDel, tAug, ipI, rInt1_int, rInt1_bl]
      refine isi_mk (.str i) (b := false) (by decide +kernel) ?_
      try simp (maxSteps := 1000000) only [tSeq, tIfS, tTest, tOp, tUn, tCB, tCons, tNil, tVar, tC, rI0, rI, rU, rEq, rNe, tRet, tRetN, tAsg, gName, gSub, tBM, tBM0, tNext, tB, tNot, tAnd, tOr, tIf, tCall, tDrop, tBreak, tCont, L2.start, tDGet, sDPut, tTup, tLst, tDNewK, tRevL, rCat, rAppend, rPop, rSetL, tAndV, tOrV, tNotV, tSl, tPart, tNoPart, tM1, gTup, gCons, gNil, cxK, cxnK, List.map_cons, List.map_nil, List.length_cons, List.length_nil, List.replicate, List.cons_append, List.nil_append, List.append_nil, List.set_cons_zero, List.set_cons_succ, List.getElem?_cons_zero, List.getElem?_cons_succ, Option.some.injEq, V.ref.injEq, V.int.injEq, V.str.injEq, V.bl.injEq, V.ty.injEq, exists_eq_left', exists_eq_left, exists_and_left, List.cons.injEq, and_true, true_and, sc_ii, sc_ss, sc_bb, sc_ni, sc_in, sc_is, sc_si, sc_nn, decide_true, decide_false, reduceCtorEq, Bool.false_eq_true, if_true, if_false, ite_true, ite_false, exists_const, eq_self, false_and, and_false, or_false, false_or, exists_false, Evl.rLenS, rSum, wipe, tYes, exists_eq, exists_eq', rIxL, rIxT, rIxS, exists_and_right, gt_iff_lt, not_true_eq_false, not_false_eq_true, Bool.not_true, Bool.not_false, decide_eq_true_eq, Nat.reduceSub, Nat.reduceAdd, List.append_assoc, tChain, tDIn, tDNotIn, sDDel, tAug, ipI, rInt1_int, rInt1_bl]
      refine isi_mk (.str i) (b := true) (by decide +kernel) ?_
      try simp (maxSteps := 1000000) only [tSeq, tIfS, tTest, tOp, tUn, tCB, tCons, tNil, tVar, tC, rI0, rI, rU, rEq, rNe, tRet, tRetN, tAsg, gName, gSub, tBM, tBM0, tNext, tB, tNot, tAnd, tOr, tIf, tCall, tDrop, tBreak, tCont, L2.start, tDGet, sDPut, tTup, tLst, tDNewK, tRevL, rCat, rAppend, rPop, rSetL, tAndV, tOrV, tNotV, tSl, tPart, tNoPart, tM1, gTup, gCons, gNil, cxK, cxnK, List.map_cons, List.map_nil, List.length_cons, List.length_nil, List.replicate, List.cons_append, List.nil_append, List.append_nil, List.set_cons_zero, List.set_cons_succ, List.getElem?_cons_zero, List.getElem?_cons_succ, Option.some.injEq, V.ref.injEq, V.int.injEq, V.str.injEq, V.bl.injEq, V.ty.injEq, exists_eq_left', exists_eq_left, exists_and_left, List.cons.injEq, and_true, true_and, sc_ii, sc_ss, sc_bb, sc_ni, sc_in, sc_is, sc_si, sc_nn, decide_true, decide_false, reduceCtorEq, Bool.false_eq_true, if_true, if_false, ite_true, ite_false, exists_const, eq_self, false_and, and_false, or_false, false_or, exists_false, Evl.rLenS, rSum, wipe, tYes, exists_eq, exists_eq', rIxL, rIxT, rIxS, exists_and_right, gt_iff_lt, not_true_eq_false, not_false_eq_true, Bool.not_true, Bool.not_false, decide_eq_true_eq, Nat.reduceSub, Nat.reduceAdd, List.append_assoc, tChain, tDIn, tDNotIn, sDDel, tAug, ipI, rInt1_int, rInt1_bl]
      refine isi_mk (.str i) (b := true) (by decide +kernel) ?_
      try simp (maxSteps := 1000000) only [tSeq, tIfS, tTest, tOp, tUn, tCB, tCons, tNil, tVar, tC, rI0, rI, rU, rEq, rNe, tRet, tRetN, tAsg, gName, gSub, tBM, tBM0, tNext, tB, tNot, tAnd, tOr, tIf, tCall, tDrop, tBreak, tCont, L2.start, tDGet, sDPut, tTup, tLst, tDNewK, tRevL, rCat, rAppend, rPop, rSetL, tAndV, tOrV, tNotV, tSl, tPart, tNoPart, tM1, gTup, gCons, gNil, cxK, cxnK, List.map_cons, List.map_nil, List.length_cons, List.length_nil, List.replicate, List.cons_append, List.nil_append, List.append_nil, List.set_cons_zero, List.set_cons_succ, List.getElem?_cons_zero, List.getElem?_cons_succ, Option.some.injEq, V.ref.injEq, V.int.injEq, V.str.injEq, V.bl.injEq, V.ty.injEq, exists_eq_left', exists_eq_left, exists_and_left, List.cons.injEq, and_true, true_and, sc_ii, sc_ss, sc_bb, sc_ni, sc_in, sc_is, sc_si, sc_nn, decide_true, decide_false, reduceCtorEq, Bool.false_eq_true, if_true, if_false, ite_true, ite_false, exists_const, eq_self, false_and, and_false, or_false, false_or, exists_false, Evl.rLenS, rSum, wipe, tYes, exists_eq, exists_eq', rIxL, rIxT, rIxS, exists_and_right, gt_iff_lt, not_true_eq_false, not_false_eq_true, Bool.not_true, Bool.not_false, decide_eq_true_eq, Nat.reduceSub, Nat.reduceAdd, List.append_assoc, tChain, tDIn, tDNotIn, sDDel, tAug, ipI, rInt1_int, rInt1_bl]
      exact q
    · skip
      refine isi_mk (.lst hb) (b := false) (by decide +kernel) ?_
      try simp (maxSteps := 1000000) only [tSeq, tIfS, tTest, tOp, tUn, tCB, tCons, tNil, tVar, tC, rI0, rI, rU, rEq, rNe, tRet, tRetN, tAsg, gName, gSub, tBM, tBM0, tNext, tB, tNot, tAnd, tOr, tIf, tCall, tDrop, tBreak, tCont, L2.start, tDGet, sDPut, tTup, tLst, tDNewK, tRevL, rCat, rAppend, rPop, rSetL, tAndV, tOrV, tNotV, tSl, tPart, tNoPart, tM1, gTup, gCons, gNil, cxK, cxnK, List.map_cons, List.map_nil, List.length_cons, List.length_nil, List.replicate, List.cons_append, List.nil_append, List.append_nil, List.set_cons_zero, List.set_cons_succ, List.getElem?_cons_zero, List.getElem?_cons_succ, Option.some.injEq, V.ref.injEq, V.int.injEq, V.str.injEq, V.bl.injEq, V.ty.injEq, exists_eq_left', exists_eq_left, exists_and_left, List.cons.injEq, and_true, true_and, sc_ii, sc_ss, sc_bb, sc_ni, sc_in, sc_is, sc_si, sc_nn, decide_true, decide_false, reduceCtorEq, Bool.false_eq_true, if_true, if_false, ite_true, ite_false, exists_const, eq_self, false_and, and_false, or_false, false_or, exists_false, Evl.rLenS, rSum, wipe, tYes, exists_eq, exists_eq', rIxL, rIxT, rIxS, exists_and_right, gt_iff_lt, not_true_eq_false, not_false_eq_true, Bool.not_true, Bool.not_false, decide_eq_true_eq, Nat.reduceSub, Nat.reduceAdd, List.append_assoc, tChain, tDIn, tDNotIn, sDDel, tAug, ipI, rInt1_int, rInt1_bl]
      refine isi_mk (.lst hb) (b := true) (by decide +kernel) ?_
      try simp (maxSteps := 1000000) only [tSeq, tIfS, tTest, tOp, tUn, tCB, tCons, tNil, tVar, tC, rI0, rI, rU, rEq, rNe, tRet, tRetN, tAsg, gName, gSub, tBM, tBM0, tNext, tB, tNot, tAnd, tOr, tIf, tCall, tDrop, tBreak, tCont, L2.start, tDGet, sDPut, tTup, tLst, tDNewK, tRevL, rCat, rAppend, rPop, rSetL, tAndV, tOrV, tNotV, tSl, tPart, tNoPart, tM1, gTup, gCons, gNil, cxK, cxnK, List.map_cons, List.map_nil, List.length_cons, List.length_nil, List.replicate, List.cons_append, List.nil_append, List.append_nil, List.set_cons_zero, List.set_cons_succ, List.getElem?_cons_zero, List.getElem?_cons_succ, Option.some.injEq, V.ref.injEq, V.int.injEq, V.str.injEq, V.bl.injEq, V.ty.injEq, exists_eq_left', exists_eq_left, exists_and_left, List.cons.injEq, and_true, true_and, sc_ii, sc_ss, sc_bb, sc_ni, sc_in, sc_is, sc_si, sc_nn, decide_true, decide_false, reduceCtorEq, Bool.false_eq_true, if_true, if_false, ite_true, ite_false, exists_const, eq_self, false_and, and_false, or_false, false_or, exists_false, Evl.rLenS, rSum, wipe, tYes, exists_eq, exists_eq', rIxL, rIxT, rIxS, exists_and_right, gt_iff_lt, not_true_eq_false, not_false_eq_true, Bool.not_true, Bool.not_false, decide_eq_true_eq, Nat.reduceSub, Nat.reduceAdd, List.append_assoc, tChain, tDIn, tDNotIn, sDDel, tAug, ipI, rInt1_int, rInt1_bl]
      refine isi_mk (.lst hb) (b := false) (by decide +kernel) ?_
      try simp (maxSteps := 1000000) only [tSeq, tIfS, tTest, tOp, tUn, tCB, tCons, tNil, tVar, tC, rI0, rI, rU, rEq, rNe, tRet, tRetN, tAsg, gName, gSub, tBM, tBM0, tNext, tB, tNot, tAnd, tOr, tIf, tCall, tDrop, tBreak, tCont, L2.start, tDGet, sDPut, tTup, tLst, tDNewK, tRevL, rCat, rAppend, rPop, rSetL, tAndV, tOrV, tNotV, tSl, tPart, tNoPart, tM1, gTup, gCons, gNil, cxK, cxnK, List.map_cons, List.map_nil, List.length_cons, List.length_nil, List.replicate, List.cons_append, List.nil_append, List.append_nil, List.set_cons_zero, List.set_cons_succ, List.getElem?_cons_zero, List.getElem?_cons_succ, Option.some.injEq, V.ref.injEq, V.int.injEq, V.str.injEq, V.bl.injEq, V.ty.injEq, exists_eq_left', exists_eq_left, exists_and_left, List.cons.injEq, and_true, true_and, sc_ii, sc_ss, sc_bb, sc_ni, sc_in, sc_is, sc_si, sc_nn, decide_true, decide_false, reduceCtorEq, Bool.false_eq_true, if_true, if_false, ite_true, ite_false, exists_const, eq_self, false_and, and_false, or_false, false_or, exists_false, Evl.rLenS, rSum, wipe, tYes, exists_eq, exists_eq', rIxL, rIxT, rIxS, exists_and_right, gt_iff_lt, not_true_eq_false, not_false_eq_true, Bool.not_true, Bool.not_false, decide_eq_true_eq, Nat.reduceSub, Nat.reduceAdd, List.append_assoc, tChain, tDIn, tDNotIn, sDDel, tAug, ipI, rInt1_int, rInt1_bl]
      refine isi_mk (.lst ha) (b := false) (by decide +kernel) ?_
      try simp (maxSteps := 1000000) only [tSeq, tIfS, tTest, tOp, tUn, tCB, tCons, tNil, tVar, tC, rI0, rI, rU, rEq, rNe, tRet, tRetN, tAsg, gName, gSub, tBM, tBM0, tNext, tB, tNot, tAnd, tOr, tIf, tCall, tDrop, tBreak, tCont, L2.start, tDGet, sDPut, tTup, tLst, tDNewK, tRevL, rCat, rAppend, rPop, rSetL, tAndV, tOrV, tNotV, tSl, tPart, tNoPart, tM1, gTup, gCons, gNil, cxK, cxnK, List.map_cons, List.map_nil, List.length_cons, List.length_nil, List.replicate, List.cons_append, List.nil_append, List.append_nil, List.set_cons_zero, List.set_cons_succ, List.getElem?_cons_zero, List.getElem?_cons_succ, Option.some.injEq, V.ref.injEq, V.int.injEq, V.str.injEq, V.bl.injEq, V.ty.injEq, exists_eq_left', exists_eq_left, exists_and_left, List.cons.injEq, and_true, true_and, sc_ii, sc_ss, sc_bb, sc_ni, sc_in, sc_is, sc_si, sc_nn, decide_true, decide_false, reduceCtorEq, Bool.false_eq_true, if_true, if_false, ite_true, ite_false, exists_const, eq_self, false_and, and_false, or_false, false_or, exists_false, Evl.rLenS, rSum, wipe, tYes, exists_eq, exists_eq', rIxL, rIxT, rIxS, exists_and_right, gt_iff_lt, not_true_eq_false, not_false_eq_true, Bool.not_true, Bool.not_false, decide_eq_true_eq, Nat.reduceSub, Nat.reduceAdd, List.append_assoc, tChain, tDIn, tDNotIn, sDDel, tAug, ipI, rInt1_int, rInt1_bl]
      refine isi_mk (.lst hb) (b := true) (by decide +kernel) ?_
      try simp (maxSteps := 1000000) only [tSeq, tIfS, tTest, tOp, tUn, tCB, tCons, tNil, tVar, tC, rI0, rI, rU, rEq, rNe, tRet, tRetN, tAsg, gName, gSub, tBM, tBM0, tNext, tB, tNot, tAnd, tOr, tIf, tCall, tDrop, tBreak, tCont, L2.start, tDGet, sDPut, tTup, tLst, tDNewK, tRevL, rCat, rAppend, rPop, rSetL, tAndV, tOrV, tNotV, tSl, tPart, tNoPart, tM1, gTup, gCons, gNil, cxK, cxnK, List.map_cons, List.map_nil, List.length_cons, List.length_nil, List.replicate, List.cons_append, List.nil_append, List.append_nil, List.set_cons_zero, List.set_cons_succ, List.getElem?_cons_zero, List.getElem?_cons_succ, Option.some.injEq, V.ref.injEq, V.int.injEq, V.str.injEq, V.bl.injEq, V.ty.injEq, exists_eq_left', exists_eq_left, exists_and_left, List.cons.injEq, and_true, true_and, sc_ii, sc_ss, sc_bb, sc_ni, sc_in, sc_is, sc_si, sc_nn, decide_true, decide_false, reduceCtorEq, Bool.false_eq_true, if_true, if_false, ite_true, ite_false, exists_const, eq_self, false_and, and_false, or_false, false_or, exists_false, Evl.rLenS, rSum, wipe, tYes, exists_eq, exists_eq', rIxL, rIxT, rIxS, exists_and_right, gt_iff_lt, not_true_eq_false, not_false_eq_true, Bool.not_true, Bool.not_false, decide_eq_true_eq, Nat.reduceSub, Nat.reduceAdd, List.append_assoc, tChain, tDIn, tDNotIn, sDDel, tAug, ipI, rInt1_int, rInt1_bl]
      refine isi_mk (.lst ha) (b := true) (by decide +kernel) ?_
      try simp (maxSteps := 1000000) only [tSeq, tIfS, tTest, tOp, tUn, tCB, tCons, tNil, tVar, tC, rI0, rI, rU, rEq, rNe, tRet, tRetN, tAsg, gName, gSub, tBM, tBM0, tNext, tB, tNot, tAnd, tOr, tIf, tCall, tDrop, tBreak, tCont, L2.start, tDGet, sDPut, tTup, tLst, tDNewK, tRevL, rCat, rAppend, rPop, rSetL, tAndV, tOrV, tNotV, tSl, tPart, tNoPart, tM1, gTup, gCons, gNil, cxK, cxnK, List.map_cons, List.map_nil, List.length_cons, List.length_nil, List.replicate, List.cons_append, List.nil_append, List.append_nil, List.set_cons_zero, List.set_cons_succ, List.getElem?_cons_zero, List.getElem?_cons_succ, Option.some.injEq, V.ref.injEq, V.int.injEq, V.str.injEq, V.bl.injEq, V.ty.injEq, exists_eq_left', exists_eq_left, exists_and_left, List.cons.injEq, and_true, true_and, sc_ii, sc_ss, sc_bb, sc_ni, sc_in, sc_is, sc_si, sc_nn, decide_true, decide_false, reduceCtorEq, Bool.false_eq_true, if_true, if_false, ite_true, ite_false, exists_const, eq_self, false_and, and_false, or_false, false_or, exists_false, Evl.rLenS, rSum, wipe, tYes, exists_eq, exists_eq', rIxL, rIxT, rIxS, exists_and_right, gt_iff_lt, not_true_eq_false, not_false_eq_true, Bool.not_true, Bool.not_false, decide_eq_true_eq, Nat.reduceSub, Nat.reduceAdd, List.append_assoc, tChain, tDIn, tDNotIn, sDDel, tAug, ipI, rInt1_int, rInt1_bl]
      refine ⟨_, .inl (sq_l ha), _, .inl (sq_l hb), ?_⟩
      rw [if_neg (by rw [el]; simp)]
      refine forN us.length (by omega) (fun j σ H' => ∃ c : Option V, σ = [some (.ref a), some (.ref b), c] ∧ H' = H) (fun R h => ?_) ⟨none, rfl, rfl⟩ (fun j σ H' hj h => ?_) fun σ H' h => ?_
      · try simp (maxSteps := 1000000) only [tSeq, tIfS, tTest, tOp, tUn, tCB, tCons, tNil, tVar, tC, rI0, rI, rU, rEq, rNe, tRet, tRetN, tAsg, gName, gSub, tBM, tBM0, tNext, tB, tNot, tAnd, tOr, tIf, tCall, tDrop, tBreak, tCont, L2.start, tDGet, sDPut, tTup, tLst, tDNewK, tRevL, rCat, rAppend, rPop, rSetL, tAndV, tOrV, tNotV, tSl, tPart, tNoPart, tM1, gTup, gCons, gNil, cxK, cxnK, List.map_cons, List.map_nil, List.length_cons, List.length_nil, List.replicate, List.cons_append, List.nil_append, List.append_nil, List.set_cons_zero, List.set_cons_succ, List.getElem?_cons_zero, List.getElem?_cons_succ, Option.some.injEq, V.ref.injEq, V.int.injEq, V.str.injEq, V.bl.injEq, V.ty.injEq, exists_eq_left', exists_eq_left, exists_and_left, List.cons.injEq, and_true, true_and, sc_ii, sc_ss, sc_bb, sc_ni, sc_in, sc_is, sc_si, sc_nn, decide_true, decide_false, reduceCtorEq, Bool.false_eq_true, if_true, if_false, ite_true, ite_false, exists_const, eq_self, false_and, and_false, or_false, false_or, exists_false, Evl.rLenS, rSum, wipe, tYes, exists_eq, exists_eq', rIxL, rIxT, rIxS, exists_and_right, gt_iff_lt, not_true_eq_false, not_false_eq_true, Bool.not_true, Bool.not_false, decide_eq_true_eq, Nat.reduceSub, Nat.reduceAdd, List.append_assoc, tChain, tDIn, tDNotIn, sDDel, tAug, ipI, rInt1_int, rInt1_bl]
        exact ⟨_, .inl (sq_l hb), by rw [← el]; exact h⟩
      · obtain ⟨c, rfl, rfl⟩ := h
        have eu : us[j]? = some us[j] := List.getElem?_eq_getElem hj
        have ev : vs[j]? = some (vs[j]'(by omega)) := List.getElem?_eq_getElem _
        try simp (maxSteps := 1000000) only [tSeq, tIfS, tTest, tOp, tUn, tCB, tCons, tNil, tVar, tC, rI0, rI, rU, rEq, rNe, tRet, tRetN, tAsg, gName, gSub, tBM, tBM0, tNext, tB, tNot, tAnd, tOr, tIf, tCall, tDrop, tBreak, tCont, L2.start, tDGet, sDPut, tTup, tLst, tDNewK, tRevL, rCat, rAppend, rPop, rSetL, tAndV, tOrV, tNotV, tSl, tPart, tNoPart, tM1, gTup, gCons, gNil, cxK, cxnK, List.map_cons, List.map_nil, List.length_cons, List.length_nil, List.replicate, List.cons_append, List.nil_append, List.append_nil, List.set_cons_zero, List.set_cons_succ, List.getElem?_cons_zero, List.getElem?_cons_succ, Option.some.injEq, V.ref.injEq, V.int.injEq, V.str.injEq, V.bl.injEq, V.ty.injEq, exists_eq_left', exists_eq_left, exists_and_left, List.cons.injEq, and_true, true_and, sc_ii, sc_ss, sc_bb, sc_ni, sc_in, sc_is, sc_si, sc_nn, decide_true, decide_false, reduceCtorEq, Bool.false_eq_true, if_true, if_false, ite_true, ite_false, exists_const, eq_self, false_and, and_false, or_false, false_or, exists_false, Evl.rLenS, rSum, wipe, tYes, exists_eq, exists_eq', rIxL, rIxT, rIxS, exists_and_right, gt_iff_lt, not_true_eq_false, not_false_eq_true, Bool.not_true, Bool.not_false, decide_eq_true_eq, Nat.reduceSub, Nat.reduceAdd, List.append_assoc, tChain, tDIn, tDNotIn, sDDel, tAug, ipI, rInt1_int, rInt1_bl]
        refine .inl ⟨_, _, _, _, rfl, rfl, sq_l ha, atI_nat eu, ?_⟩
        try simp (maxSteps := 1000000) only [tSeq, tIfS, tTest, tOp, tUn, tCB, tCons, tNil, tVar, tC, rI0, rI, rU, rEq, rNe, tRet, tRetN, tAsg, gName, gSub, tBM, tBM0, tNext, tB, tNot, tAnd, tOr, tIf, tCall, tDrop, tBreak, tCont, L2.start, tDGet, sDPut, tTup, tLst, tDNewK, tRevL, rCat, rAppend, rPop, rSetL, tAndV, tOrV, tNotV, tSl, tPart, tNoPart, tM1, gTup, gCons, gNil, cxK, cxnK, List.map_cons, List.map_nil, List.length_cons, List.length_nil, List.replicate, List.cons_append, List.nil_append, List.append_nil, List.set_cons_zero, List.set_cons_succ, List.getElem?_cons_zero, List.getElem?_cons_succ, Option.some.injEq, V.ref.injEq, V.int.injEq, V.str.injEq, V.bl.injEq, V.ty.injEq, exists_eq_left', exists_eq_left, exists_and_left, List.cons.injEq, and_true, true_and, sc_ii, sc_ss, sc_bb, sc_ni, sc_in, sc_is, sc_si, sc_nn, decide_true, decide_false, reduceCtorEq, Bool.false_eq_true, if_true, if_false, ite_true, ite_false, exists_const, eq_self, false_and, and_false, or_false, false_or, exists_false, Evl.rLenS, rSum, wipe, tYes, exists_eq, exists_eq', rIxL, rIxT, rIxS, exists_and_right, gt_iff_lt, not_true_eq_false, not_false_eq_true, Bool.not_true, Bool.not_false, decide_eq_true_eq, Nat.reduceSub, Nat.reduceAdd, List.append_assoc, tChain, tDIn, tDNotIn, sDDel, tAug, ipI, rInt1_int, rInt1_bl]
        refine .inl ⟨_, _, _, _, rfl, rfl, sq_l hb, atI_nat ev, ?_⟩
        try simp (maxSteps := 1000000) only [tSeq, tIfS, tTest, tOp, tUn, tCB, tCons, tNil, tVar, tC, rI0, rI, rU, rEq, rNe, tRet, tRetN, tAsg, gName, gSub, tBM, tBM0, tNext, tB, tNot, tAnd, tOr, tIf, tCall, tDrop, tBreak, tCont, L2.start, tDGet, sDPut, tTup, tLst, tDNewK, tRevL, rCat, rAppend, rPop, rSetL, tAndV, tOrV, tNotV, tSl, tPart, tNoPart, tM1, gTup, gCons, gNil, cxK, cxnK, List.map_cons, List.map_nil, List.length_cons, List.length_nil, List.replicate, List.cons_append, List.nil_append, List.append_nil, List.set_cons_zero, List.set_cons_succ, List.getElem?_cons_zero, List.getElem?_cons_succ, Option.some.injEq, V.ref.injEq, V.int.injEq, V.str.injEq, V.bl.injEq, V.ty.injEq, exists_eq_left', exists_eq_left, exists_and_left, List.cons.injEq, and_true, true_and, sc_ii, sc_ss, sc_bb, sc_ni, sc_in, sc_is, sc_si, sc_nn, decide_true, decide_false, reduceCtorEq, Bool.false_eq_true, if_true, if_false, ite_true, ite_false, exists_const, eq_self, false_and, and_false, or_false, false_or, exists_false, Evl.rLenS, rSum, wipe, tYes, exists_eq, exists_eq', rIxL, rIxT, rIxS, exists_and_right, gt_iff_lt, not_true_eq_false, not_false_eq_true, Bool.not_true, Bool.not_false, decide_eq_true_eq, Nat.reduceSub, Nat.reduceAdd, List.append_assoc, tChain, tDIn, tDNotIn, sDDel, tAug, ipI, rInt1_int, rInt1_bl]
        refine ⟨_, _, rfl, hi j _ _ eu ev, ?_⟩
        try simp (maxSteps := 1000000) only [tSeq, tIfS, tTest, tOp, tUn, tCB, tCons, tNil, tVar, tC, rI0, rI, rU, rEq, rNe, tRet, tRetN, tAsg, gName, gSub, tBM, tBM0, tNext, tB, tNot, tAnd, tOr, tIf, tCall, tDrop, tBreak, tCont, L2.start, tDGet, sDPut, tTup, tLst, tDNewK, tRevL, rCat, rAppend, rPop, rSetL, tAndV, tOrV, tNotV, tSl, tPart, tNoPart, tM1, gTup, gCons, gNil, cxK, cxnK, List.map_cons, List.map_nil, List.length_cons, List.length_nil, List.replicate, List.cons_append, List.nil_append, List.append_nil, List.set_cons_zero, List.set_cons_succ, List.getElem?_cons_zero, List.getElem?_cons_succ, Option.some.injEq, V.ref.injEq, V.int.injEq, V.str.injEq, V.bl.injEq, V.ty.injEq, exists_eq_left', exists_eq_left, exists_and_left, List.cons.injEq, and_true, true_and, sc_ii, sc_ss, sc_bb, sc_ni, sc_in, sc_is, sc_si, sc_nn, decide_true, decide_false, reduceCtorEq, Bool.false_eq_true, if_true, if_false, ite_true, ite_false, exists_const, eq_self, false_and, and_false, or_false, false_or, exists_false, Evl.rLenS, rSum, wipe, tYes, exists_eq, exists_eq', rIxL, rIxT, rIxS, exists_and_right, gt_iff_lt, not_true_eq_false, not_false_eq_true, Bool.not_true, Bool.not_false, decide_eq_true_eq, Nat.reduceSub, Nat.reduceAdd, List.append_assoc, tChain, tDIn, tDNotIn, sDDel, tAug, ipI, rInt1_int, rInt1_bl]
      · obtain ⟨c, rfl, rfl⟩ := h
        try simp (maxSteps := 1000000) only [tSeq, tIfS, tTest, tOp, tUn, tCB, tCons, tNil, tVar, tC, rI0, rI, rU, rEq, rNe, tRet, tRetN, tAsg, gName, gSub, tBM, tBM0, tNext, tB, tNot, tAnd, tOr, tIf, tCall, tDrop, tBreak, tCont, L2.start, tDGet, sDPut, tTup, tLst, tDNewK, tRevL, rCat, rAppend, rPop, rSetL, tAndV, tOrV, tNotV, tSl, tPart, tNoPart, tM1, gTup, gCons, gNil, cxK, cxnK, List.map_cons, List.map_nil, List.length_cons, List.length_nil, List.replicate, List.cons_append, List.nil_append, List.append_nil, List.set_cons_zero, List.set_cons_succ, List.getElem?_cons_zero, List.getElem?_cons_succ, Option.some.injEq, V.ref.injEq, V.int.injEq, V.str.injEq, V.bl.injEq, V.ty.injEq, exists_eq_left', exists_eq_left, exists_and_left, List.cons.injEq, and_true, true_and, sc_ii, sc_ss, sc_bb, sc_ni, sc_in, sc_is, sc_si, sc_nn, decide_true, decide_false, reduceCtorEq, Bool.false_eq_true, if_true, if_false, ite_true, ite_false, exists_const, eq_self, false_and, and_false, or_false, false_or, exists_false, Evl.rLenS, rSum, wipe, tYes, exists_eq, exists_eq', rIxL, rIxT, rIxS, exists_and_right, gt_iff_lt, not_true_eq_false, not_false_eq_true, Bool.not_true, Bool.not_false, decide_eq_true_eq, Nat.reduceSub, Nat.reduceAdd, List.append_assoc, tChain, tDIn, tDNotIn, sDDel, tAug, ipI, rInt1_int, rInt1_bl]
        exact q
    · skip
      refine isi_mk (.tup hb) (b := true) (by decide +kernel) ?_
      try simp (maxSteps := 1000000) only [tSeq, tIfS, tTest, tOp, tUn, tCB, tCons, tNil, tVar, tC, rI0, rI, rU, rEq, rNe, tRet, tRetN, tAsg, gName, gSub, tBM, tBM0, tNext, tB, tNot, tAnd, tOr, tIf, tCall, tDrop, tBreak, tCont, L2.start, tDGet, sDPut, tTup, tLst, tDNewK, tRevL, rCat, rAppend, rPop, rSetL, tAndV, tOrV, tNotV, tSl, tPart, tNoPart, tM1, gTup, gCons, gNil, cxK, cxnK, List.map_cons, List.map_nil, List.length_cons, List.length_nil, List.replicate, List.cons_append, List.nil_append, List.append_nil, List.set_cons_zero, List.set_cons_succ, List.getElem?_cons_zero, List.getElem?_cons_succ, Option.some.injEq, V.ref.injEq, V.int.injEq, V.str.injEq, V.bl.injEq, V.ty.injEq, exists_eq_left', exists_eq_left, exists_and_left, List.cons.injEq, and_true, true_and, sc_ii, sc_ss, sc_bb, sc_ni, sc_in, sc_is, sc_si, sc_nn, decide_true, decide_false, reduceCtorEq, Bool.false_eq_true, if_true, if_false, ite_true, ite_false, exists_const, eq_self, false_and, and_false, or_false, false_or, exists_false, Evl.rLenS, rSum, wipe, tYes, exists_eq, exists_eq', rIxL, rIxT, rIxS, exists_and_right, gt_iff_lt, not_true_eq_false, not_false_eq_true, Bool.not_true, Bool.not_false, decide_eq_true_eq, Nat.reduceSub, Nat.reduceAdd, List.append_assoc, tChain, tDIn, tDNotIn, sDDel, tAug, ipI, rInt1_int, rInt1_bl]
      refine isi_mk (.tup hb) (b := true) (by decide +kernel) ?_
      try simp (maxSteps := 1000000) only [tSeq, tIfS, tTest, tOp, tUn, tCB, tCons, tNil, tVar, tC, rI0, rI, rU, rEq, rNe, tRet, tRetN, tAsg, gName, gSub, tBM, tBM0, tNext, tB, tNot, tAnd, tOr, tIf, tCall, tDrop, tBreak, tCont, L2.start, tDGet, sDPut, tTup, tLst, tDNewK, tRevL, rCat, rAppend, rPop, rSetL, tAndV, tOrV, tNotV, tSl, tPart, tNoPart, tM1, gTup, gCons, gNil, cxK, cxnK, List.map_cons, List.map_nil, List.length_cons, List.length_nil, List.replicate, List.cons_append, List.nil_append, List.append_nil, List.set_cons_zero, List.set_cons_succ, List.getElem?_cons_zero, List.getElem?_cons_succ, Option.some.injEq, V.ref.injEq, V.int.injEq, V.str.injEq, V.bl.injEq, V.ty.injEq, exists_eq_left', exists_eq_left, exists_and_left, List.cons.injEq, and_true, true_and, sc_ii, sc_ss, sc_bb, sc_ni, sc_in, sc_is, sc_si, sc_nn, decide_true, decide_false, reduceCtorEq, Bool.false_eq_true, if_true, if_false, ite_true, ite_false, exists_const, eq_self, false_and, and_false, or_false, false_or, exists_false, Evl.rLenS, rSum, wipe, tYes, exists_eq, exists_eq', rIxL, rIxT, rIxS, exists_and_right, gt_iff_lt, not_true_eq_false, not_false_eq_true, Bool.not_true, Bool.not_false, decide_eq_true_eq, Nat.reduceSub, Nat.reduceAdd, List.append_assoc, tChain, tDIn, tDNotIn, sDDel, tAug, ipI, rInt1_int, rInt1_bl]
      refine isi_mk (.tup ha) (b := true) (by decide +kernel) ?_
      try simp (maxSteps := 1000000) only [tSeq, tIfS, tTest, tOp, tUn, tCB, tCons, tNil, tVar, tC, rI0, rI, rU, rEq, rNe, tRet, tRetN, tAsg, gName, gSub, tBM, tBM0, tNext, tB, tNot, tAnd, tOr, tIf, tCall, tDrop, tBreak, tCont, L2.start, tDGet, sDPut, tTup, tLst, tDNewK, tRevL, rCat, rAppend, rPop, rSetL, tAndV, tOrV, tNotV, tSl, tPart, tNoPart, tM1, gTup, gCons, gNil, cxK, cxnK, List.map_cons, List.map_nil, List.length_cons, List.length_nil, List.replicate, List.cons_append, List.nil_append, List.append_nil, List.set_cons_zero, List.set_cons_succ, List.getElem?_cons_zero, List.getElem?_cons_succ, Option.some.injEq, V.ref.injEq, V.int.injEq, V.str.injEq, V.bl.injEq, V.ty.injEq, exists_eq_left', exists_eq_left, exists_and_left, List.cons.injEq, and_true, true_and, sc_ii, sc_ss, sc_bb, sc_ni, sc_in, sc_is, sc_si, sc_nn, decide_true, decide_false, reduceCtorEq, Bool.false_eq_true, if_true, if_false, ite_true, ite_false, exists_const, eq_self, false_and, and_false, or_false, false_or, exists_false, Evl.rLenS, rSum, wipe, tYes, exists_eq, exists_eq', rIxL, rIxT, rIxS, exists_and_right, gt_iff_lt, not_true_eq_false, not_false_eq_true, Bool.not_true, Bool.not_false, decide_eq_true_eq, Nat.reduceSub, Nat.reduceAdd, List.append_assoc, tChain, tDIn, tDNotIn, sDDel, tAug, ipI, rInt1_int, rInt1_bl]
      refine isi_mk (.tup hb) (b := false) (by decide +kernel) ?_
      try simp (maxSteps := 1000000) only [tSeq, tIfS, tTest, tOp, tUn, tCB, tCons, tNil, tVar, tC, rI0, rI, rU, rEq, rNe, tRet, tRetN, tAsg, gName, gSub, tBM, tBM0, tNext, tB, tNot, tAnd, tOr, tIf, tCall, tDrop, tBreak, tCont, L2.start, tDGet, sDPut, tTup, tLst, tDNewK, tRevL, rCat, rAppend, rPop, rSetL, tAndV, tOrV, tNotV, tSl, tPart, tNoPart, tM1, gTup, gCons, gNil, cxK, cxnK, List.map_cons, List.map_nil, List.length_cons, List.length_nil, List.replicate, List.cons_append, List.nil_append, List.append_nil, List.set_cons_zero, List.set_cons_succ, List.getElem?_cons_zero, List.getElem?_cons_succ, Option.some.injEq, V.ref.injEq, V.int.injEq, V.str.injEq, V.bl.injEq, V.ty.injEq, exists_eq_left', exists_eq_left, exists_and_left, List.cons.injEq, and_true, true_and, sc_ii, sc_ss, sc_bb, sc_ni, sc_in, sc_is, sc_si, sc_nn, decide_true, decide_false, reduceCtorEq, Bool.false_eq_true, if_true, if_false, ite_true, ite_false, exists_const, eq_self, false_and, and_false, or_false, false_or, exists_false, Evl.rLenS, rSum, wipe, tYes, exists_eq, exists_eq', rIxL, rIxT, rIxS, exists_and_right, gt_iff_lt, not_true_eq_false, not_false_eq_true, Bool.not_true, Bool.not_false, decide_eq_true_eq, Nat.reduceSub, Nat.reduceAdd, List.append_assoc, tChain, tDIn, tDNotIn, sDDel, tAug, ipI, rInt1_int, rInt1_bl]
      refine isi_mk (.tup ha) (b := false) (by decide +kernel) ?_
      try simp (maxSteps := 1000000) only [tSeq, tIfS, tTest, tOp, tUn, tCB, tCons, tNil, tVar, tC, rI0, rI, rU, rEq, rNe, tRet, tRetN, tAsg, gName, gSub, tBM, tBM0, tNext, tB, tNot, tAnd, tOr, tIf, tCall, tDrop, tBreak, tCont, L2.start, tDGet, sDPut, tTup, tLst, tDNewK, tRevL, rCat, rAppend, rPop, rSetL, tAndV, tOrV, tNotV, tSl, tPart, tNoPart, tM1, gTup, gCons, gNil, cxK, cxnK, List.map_cons, List.map_nil, List.length_cons, List.length_nil, List.replicate, List.cons_append, List.nil_append, List.append_nil, List.set_cons_zero, List.set_cons_succ, List.getElem?_cons_zero, List.getElem?_cons_succ, Option.some.injEq, V.ref.injEq, V.int.injEq, V.str.injEq, V.bl.injEq, V.ty.injEq, exists_eq_left', exists_eq_left, exists_and_left, List.cons.injEq, and_true, true_and, sc_ii, sc_ss, sc_bb, sc_ni, sc_in, sc_is, sc_si, sc_nn, decide_true, decide_false, reduceCtorEq, Bool.false_eq_true, if_true, if_false, ite_true, ite_false, exists_const, eq_self, false_and, and_false, or_false, false_or, exists_false, Evl.rLenS, rSum, wipe, tYes, exists_eq, exists_eq', rIxL, rIxT, rIxS, exists_and_right, gt_iff_lt, not_true_eq_false, not_false_eq_true, Bool.not_true, Bool.not_false, decide_eq_true_eq, Nat.reduceSub, Nat.reduceAdd, List.append_assoc, tChain, tDIn, tDNotIn, sDDel, tAug, ipI, rInt1_int, rInt1_bl]
      refine ⟨_, .inr (sq_t ha), _, .inr (sq_t hb), ?_⟩
      rw [if_neg (by rw [el]; simp)]
      refine forN us.length (by omega) (fun j σ H' => ∃ c : Option V, σ = [some (.ref a), some (.ref b), c] ∧ H' = H) (fun R h => ?_) ⟨none, rfl, rfl⟩ (fun j σ H' hj h => ?_) fun σ H' h => ?_
      · try simp (maxSteps := 1000000) only [tSeq, tIfS, tTest, tOp, tUn, tCB, tCons, tNil, tVar, tC, rI0, rI, rU, rEq, rNe, tRet, tRetN, tAsg, gName, gSub, tBM, tBM0, tNext, tB, tNot, tAnd, tOr, tIf, tCall, tDrop, tBreak, tCont, L2.start, tDGet, sDPut, tTup, tLst, tDNewK, tRevL, rCat, rAppend, rPop, rSetL, tAndV, tOrV, tNotV, tSl, tPart, tNoPart, tM1, gTup, gCons, gNil, cxK, cxnK, List.map_cons, List.map_nil, List.length_cons, List.length_nil, List.replicate, List.cons_append, List.nil_append, List.append_nil, List.set_cons_zero, List.set_cons_succ, List.getElem?_cons_zero, List.getElem?_cons_succ, Option.some.injEq, V.ref.injEq, V.int.injEq, V.str.injEq, V.bl.injEq, V.ty.injEq, exists_eq_left', exists_eq_left, exists_and_left, List.cons.injEq, and_true, true_and, sc_ii, sc_ss, sc_bb, sc_ni, sc_in, sc_is, sc_si, sc_nn, decide_true, decide_false, reduceCtorEq, Bool.false_eq_true, if_true, if_false, ite_true, ite_false, exists_const, eq_self, false_and, and_false, or_false, false_or, exists_false, Evl.rLenS, rSum, wipe, tYes, exists_eq, exists_eq', rIxL, rIxT, rIxS, exists_and_right, gt_iff_lt, not_true_eq_false, not_false_eq_true, Bool.not_true, Bool.not_false, decide_eq_true_eq, Nat.reduceSub, Nat.reduceAdd, List.append_assoc, tChain, tDIn, tDNotIn, sDDel, tAug, ipI, rInt1_int, rInt1_bl]
        exact ⟨_, .inr (sq_t hb), by rw [← el]; exact h⟩
      · obtain ⟨c, rfl, rfl⟩ := h
        have eu : us[j]? = some us[j] := List.getElem?_eq_getElem hj
        have ev : vs[j]? = some (vs[j]'(by omega)) := List.getElem?_eq_getElem _
        try simp (maxSteps := 1000000) only [tSeq, tIfS, tTest, tOp, tUn, tCB, tCons, tNil, tVar, tC, rI0, rI, rU, rEq, rNe, tRet, tRetN, tAsg, gName, gSub, tBM, tBM0, tNext, tB, tNot, tAnd, tOr, tIf, tCall, tDrop, tBreak, tCont, L2.start, tDGet, sDPut, tTup, tLst, tDNewK, tRevL, rCat, rAppend, rPop, rSetL, tAndV, tOrV, tNotV, tSl, tPart, tNoPart, tM1, gTup, gCons, gNil, cxK, cxnK, List.map_cons, List.map_nil, List.length_cons, List.length_nil, List.replicate, List.cons_append, List.nil_append, List.append_nil, List.set_cons_zero, List.set_cons_succ, List.getElem?_cons_zero, List.getElem?_cons_succ, Option.some.injEq, V.ref.injEq, V.int.injEq, V.str.injEq, V.bl.injEq, V.ty.injEq, exists_eq_left', exists_eq_left, exists_and_left, List.cons.injEq, and_true, true_and, sc_ii, sc_ss, sc_bb, sc_ni, sc_in, sc_is, sc_si, sc_nn, decide_true, decide_false, reduceCtorEq, Bool.false_eq_true, if_true, if_false, ite_true, ite_false, exists_const, eq_self, false_and, and_false, or_false, false_or, exists_false, Evl.rLenS, rSum, wipe, tYes, exists_eq, exists_eq', rIxL, rIxT, rIxS, exists_and_right, gt_iff_lt, not_true_eq_false, not_false_eq_true, Bool.not_true, Bool.not_false, decide_eq_true_eq, Nat.reduceSub, Nat.reduceAdd, List.append_assoc, tChain, tDIn, tDNotIn, sDDel, tAug, ipI, rInt1_int, rInt1_bl]
        refine .inr (.inl ⟨_, _, _, _, rfl, rfl, sq_t ha, atI_nat eu, ?_⟩)
        try simp (maxSteps := 1000000) only [tSeq, tIfS, tTest, tOp, tUn, tCB, tCons, tNil, tVar, tC, rI0, rI, rU, rEq, rNe, tRet, tRetN, tAsg, gName, gSub, tBM, tBM0, tNext, tB, tNot, tAnd, tOr, tIf, tCall, tDrop, tBreak, tCont, L2.start, tDGet, sDPut, tTup, tLst, tDNewK, tRevL, rCat, rAppend, rPop, rSetL, tAndV, tOrV, tNotV, tSl, tPart, tNoPart, tM1, gTup, gCons, gNil, cxK, cxnK, List.map_cons, List.map_nil, List.length_cons, List.length_nil, List.replicate, List.cons_append, List.nil_append, List.append_nil, List.set_cons_zero, List.set_cons_succ, List.getElem?_cons_zero, List.getElem?_cons_succ, Option.some.injEq, V.ref.injEq, V.int.injEq, V.str.injEq, V.bl.injEq, V.ty.injEq, exists_eq_left', exists_eq_left, exists_and_left, List.cons.injEq, and_true, true_and, sc_ii, sc_ss, sc_bb, sc_ni, sc_in, sc_is, sc_si, sc_nn, decide_true, decide_false, reduceCtorEq, Bool.false_eq_true, if_true, if_false, ite_true, ite_false, exists_const, eq_self, false_and, and_false, or_false, false_or, exists_false, Evl.rLenS, rSum, wipe, tYes, exists_eq, exists_eq', rIxL, rIxT, rIxS, exists_and_right, gt_iff_lt, not_true_eq_false, not_false_eq_true, Bool.not_true, Bool.not_false, decide_eq_true_eq, Nat.reduceSub, Nat.reduceAdd, List.append_assoc, tChain, tDIn, tDNotIn, sDDel, tAug, ipI, rInt1_int, rInt1_bl]
        refine .inr (.inl ⟨_, _, _, _, rfl, rfl, sq_t hb, atI_nat ev, ?_⟩)
        try simp (maxSteps := 1000000) only [tSeq, tIfS, tTest, tOp, tUn, tCB, tCons, tNil, tVar, tC, rI0, rI, rU, rEq, rNe, tRet, tRetN, tAsg, gName, gSub, tBM, tBM0, tNext, tB, tNot, tAnd, tOr, tIf, tCall, tDrop, tBreak, tCont, L2.start, tDGet, sDPut, tTup, tLst, tDNewK, tRevL, rCat, rAppend, rPop, rSetL, tAndV, tOrV, tNotV, tSl, tPart, tNoPart, tM1, gTup, gCons, gNil, cxK, cxnK, List.map_cons, List.map_nil, List.length_cons, List.length_nil, List.replicate, List.cons_append, List.nil_append, List.append_nil, List.set_cons_zero, List.set_cons_succ, List.getElem?_cons_zero, List.getElem?_cons_succ, Option.some.injEq, V.ref.injEq, V.int.injEq, V.str.injEq, V.bl.injEq, V.ty.injEq, exists_eq_left', exists_eq_left, exists_and_left, List.cons.injEq, and_true, true_and, sc_ii, sc_ss, sc_bb, sc_ni, sc_in, sc_is, sc_si, sc_nn, decide_true, decide_false, reduceCtorEq, Bool.false_eq_true, if_true, if_false, ite_true, ite_false, exists_const, eq_self, false_and, and_false, or_false, false_or, exists_false, Evl.rLenS, rSum, wipe, tYes, exists_eq, exists_eq', rIxL, rIxT, rIxS, exists_and_right, gt_iff_lt, not_true_eq_false, not_false_eq_true, Bool.not_true, Bool.not_false, decide_eq_true_eq, Nat.reduceSub, Nat.reduceAdd, List.append_assoc, tChain, tDIn, tDNotIn, sDDel, tAug, ipI, rInt1_int, rInt1_bl]
        refine ⟨_, _, rfl, hi j _ _ eu ev, ?_⟩
        try simp (maxSteps := 1000000) only [tSeq, tIfS, tTest, tOp, tUn, tCB, tCons, tNil, tVar, tC, rI0, rI, rU, rEq, rNe, tRet, tRetN, tAsg, gName, gSub, tBM, tBM0, tNext, tB, tNot, tAnd, tOr, tIf, tCall, tDrop, tBreak, tCont, L2.start, tDGet, sDPut, tTup, tLst, tDNewK, tRevL, rCat, rAppend, rPop, rSetL, tAndV, tOrV, tNotV, tSl, tPart, tNoPart, tM1, gTup, gCons, gNil, cxK, cxnK, List.map_cons, List.map_nil, List.length_cons, List.length_nil, List.replicate, List.cons_append, List.nil_append, List.append_nil, List.set_cons_zero, List.set_cons_succ, List.getElem?_cons_zero, List.getElem?_cons_succ, Option.some.injEq, V.ref.injEq, V.int.injEq, V.str.injEq, V.bl.injEq, V.ty.injEq, exists_eq_left', exists_eq_left, exists_and_left, List.cons.injEq, and_true, true_and, sc_ii, sc_ss, sc_bb, sc_ni, sc_in, sc_is, sc_si, sc_nn, decide_true, decide_false, reduceCtorEq, Bool.false_eq_true, if_true, if_false, ite_true, ite_false, exists_const, eq_self, false_and, and_false, or_false, false_or, exists_false, Evl.rLenS, rSum, wipe, tYes, exists_eq, exists_eq', rIxL, rIxT, rIxS, exists_and_right, gt_iff_lt, not_true_eq_false, not_false_eq_true, Bool.not_true, Bool.not_false, decide_eq_true_eq, Nat.reduceSub, Nat.reduceAdd, List.append_assoc, tChain, tDIn, tDNotIn, sDDel, tAug, ipI, rInt1_int, rInt1_bl]
      · obtain ⟨c, rfl, rfl⟩ := h
        try simp (maxSteps := 1000000) only [tSeq, tIfS, tTest, tOp, tUn, tCB, tCons, tNil, tVar, tC, rI0, rI, rU, rEq, rNe, tRet, tRetN, tAsg, gName, gSub, tBM, tBM0, tNext, tB, tNot, tAnd, tOr, tIf, tCall, tDrop, tBreak, tCont, L2.start, tDGet, sDPut, tTup, tLst, tDNewK, tRevL, rCat, rAppend, rPop, rSetL, tAndV, tOrV, tNotV, tSl, tPart, tNoPart, tM1, gTup, gCons, gNil, cxK, cxnK, List.map_cons, List.map_nil, List.length_cons, List.length_nil, List.replicate, List.cons_append, List.nil_append, List.append_nil, List.set_cons_zero, List.set_cons_succ, List.getElem?_cons_zero, List.getElem?_cons_succ, Option.some.injEq, V.ref.injEq, V.int.injEq, V.str.injEq, V.bl.injEq, V.ty.injEq, exists_eq_left', exists_eq_left, exists_and_left, List.cons.injEq, and_true, true_and, sc_ii, sc_ss, sc_bb, sc_ni, sc_in, sc_is, sc_si, sc_nn, decide_true, decide_false, reduceCtorEq, Bool.false_eq_true, if_true, if_false, ite_true, ite_false, exists_const, eq_self, false_and, and_false, or_false, false_or, exists_false, Evl.rLenS, rSum, wipe, tYes, exists_eq, exists_eq', rIxL, rIxT, rIxS, exists_and_right, gt_iff_lt, not_true_eq_false, not_false_eq_true, Bool.not_true, Bool.not_false, decide_eq_true_eq, Nat.reduceSub, Nat.reduceAdd, List.append_assoc, tChain, tDIn, tDNotIn, sDDel, tAug, ipI, rInt1_int, rInt1_bl]
        exact q
theorem ok_law_same {f : Addr} {fd : FuncData} (D_law_same : Df K mg "_law_same" s_law_same ["_law_told_here", "_law_due"] f fd) (T : BtX mg) : ∀ d, FnOk P w K mg base CX0 (d + 1) f fd ["_law_told_here", "_law_due"] (spSame d)
  | 0 => same_step D_law_same T 0 ⟨fun _ _ _ _ h => h.elim, fun _ _ _ _ _ _ _ _ _ _ _ _ _ h => h.elim⟩
  | d + 1 => same_step D_law_same T (d + 1) (ok_law_same D_law_same T d)
theorem okz_law_same {f : Addr} {fd : FuncData} (D_law_same : Df K mg "_law_same" s_law_same ["_law_told_here", "_law_due"] f fd) (T : BtX mg) : FnZ P w K mg base CX0 1 f fd ["_law_told_here", "_law_due"] (spSame 0) := by
  obtain ⟨oc, od, kV, doc, pm, an, cdv, ct, osl, hfd, lk, hcd⟩ := D_law_same.F.ex
  rw [hfd] at lk ⊢
  refine fn_ofZR lk hcd sc_law_same (fun vs H Q E h => ?_) (fun A outer s H vs Q E hr h => ?_)
  · obtain ⟨_, _, rfl, _⟩ := h
    rfl
  · obtain ⟨x, y, rfl, hs, q⟩ := h
    refine ⟨_, (pss_cons (ps_if (PW.pt (pw_or (pt_val (pe_callB (id := "isinstance") (r := rIsi K) call_isi (by rfl) T.b_isinstance (by decide +kernel) (pa_cons (pv 1) (pa_cons (pe_bltn (v := .ty "tuple") (by rfl) T.b_tuple (by decide +kernel) rfl) pa_nil)))) (pw_or1 (pt_val (pe_callB (id := "isinstance") (r := rIsi K) call_isi (by rfl) T.b_isinstance (by decide +kernel) (pa_cons (pv 1) (pa_cons (pe_bltn (v := .ty "list") (by rfl) T.b_list (by decide +kernel) rfl) pa_nil))))))) (pss_cons (ps_if (PW.pt (pw_or (pt_cmpR op_ne (pe_callB (id := "isinstance") (r := rIsi K) call_isi (by rfl) T.b_isinstance (by decide +kernel) (pa_cons (pv 1) (pa_cons (pe_bltn (v := .ty "tuple") (by rfl) T.b_tuple (by decide +kernel) rfl) pa_nil))) (pe_callB (id := "isinstance") (r := rIsi K) call_isi (by rfl) T.b_isinstance (by decide +kernel) (pa_cons (pv 0) (pa_cons (pe_bltn (v := .ty "tuple") (by rfl) T.b_tuple (by decide +kernel) rfl) pa_nil))) (nomark _)) (pw_or1 (pt_cmpR op_ne (pe_callB (id := "isinstance") (r := rIsi K) call_isi (by rfl) T.b_isinstance (by decide +kernel) (pa_cons (pv 1) (pa_cons (pe_bltn (v := .ty "list") (by rfl) T.b_list (by decide +kernel) rfl) pa_nil))) (pe_callB (id := "isinstance") (r := rIsi K) call_isi (by rfl) T.b_isinstance (by decide +kernel) (pa_cons (pv 0) (pa_cons (pe_bltn (v := .ty "list") (by rfl) T.b_list (by decide +kernel) rfl) pa_nil))) (nomark _))))) (pss_one (ps_ret pe_bl)) pss_nil)
      (pss_cons (ps_if (pt_cmpR op_ne (pe_callB (id := "len") (r := Evl.rLenS K) call_len_seq (by rfl) T.b_len PySem.boot_len (pa_cons (pv 0) pa_nil)) (pe_callB (id := "len") (r := Evl.rLenS K) call_len_seq (by rfl) T.b_len PySem.boot_len (pa_cons (pv 1) pa_nil)) (nomark _)) (pss_one (ps_ret pe_bl)) pss_nil)
      (pss_cons ps_never
      (pss_one (ps_ret pe_bl))))) pss_nil)
      (pss_cons (ps_if (pt_cmpR op_isN (pv 1) pe_non (nomark _)) (pss_one (ps_ret (pe_cmpR op_isN (pv 0) pe_non (nomark _)))) pss_nil)
      (pss_cons (ps_if (PW.pt (pw_or (pt_cmpR op_ne (pe_callB (id := "isinstance") (r := rIsi K) call_isi (by rfl) T.b_isinstance (by decide +kernel) (pa_cons (pv 1) (pa_cons (pe_bltn (v := .ty "bool") (by rfl) T.b_bool (by decide +kernel) rfl) pa_nil))) (pe_callB (id := "isinstance") (r := rIsi K) call_isi (by rfl) T.b_isinstance (by decide +kernel) (pa_cons (pv 0) (pa_cons (pe_bltn (v := .ty "bool") (by rfl) T.b_bool (by decide +kernel) rfl) pa_nil))) (nomark _)) (pw_or1 (pt_cmpR op_ne (pe_callB (id := "isinstance") (r := rIsi K) call_isi (by rfl) T.b_isinstance (by decide +kernel) (pa_cons (pv 1) (pa_cons (pe_bltn (v := .ty "int") (by rfl) T.b_int (by decide +kernel) rfl) pa_nil))) (pe_callB (id := "isinstance") (r := rIsi K) call_isi (by rfl) T.b_isinstance (by decide +kernel) (pa_cons (pv 0) (pa_cons (pe_bltn (v := .ty "int") (by rfl) T.b_int (by decide +kernel) rfl) pa_nil))) (nomark _))))) (pss_one (ps_ret pe_bl)) pss_nil)
      (pss_one (ps_ret (pe_and (pe_cmpR op_eq (pe_callB (id := "isinstance") (r := rIsi K) call_isi (by rfl) T.b_isinstance (by decide +kernel) (pa_cons (pv 1) (pa_cons (pe_bltn (v := .ty "str") (by rfl) T.b_str (by decide +kernel) rfl) pa_nil))) (pe_callB (id := "isinstance") (r := rIsi K) call_isi (by rfl) T.b_isinstance (by decide +kernel) (pa_cons (pv 0) (pa_cons (pe_bltn (v := .ty "str") (by rfl) T.b_str (by decide +kernel) rfl) pa_nil))) (nomark _)) (pe_one (pe_cmpR op_eq (pv 0) (pv 1) (nomark _))))))))), ?_⟩
    try simp (maxSteps := 1000000) only [tSeq, tIfS, tTest, tOp, tUn, tCB, tCons, tNil, tVar, tC, rI0, rI, rU, rEq, rNe, tRet, tRetN, tAsg, gName, gSub, tBM, tBM0, tNext, tB, tNot, tAnd, tOr, tIf, tCall, tDrop, tBreak, tCont, L2.start, tDGet, sDPut, tTup, tLst, tDNewK, tRevL, rCat, rAppend, rPop, rSetL, tAndV, tOrV, tNotV, tSl, tPart, tNoPart, tM1, gTup, gCons, gNil, cxK, cxnK, List.map_cons, List.map_nil, List.length_cons, List.length_nil, List.replicate, List.cons_append, List.nil_append, List.append_nil, List.set_cons_zero, List.set_cons_succ, List.getElem?_cons_zero, List.getElem?_cons_succ, Option.some.injEq, V.ref.injEq, V.int.injEq, V.str.injEq, V.bl.injEq, V.ty.injEq, exists_eq_left', exists_eq_left, exists_and_left, List.cons.injEq, and_true, true_and, sc_ii, sc_ss, sc_bb, sc_ni, sc_in, sc_is, sc_si, sc_nn, decide_true, decide_false, reduceCtorEq, Bool.false_eq_true, if_true, if_false, ite_true, ite_false, exists_const, eq_self, false_and, and_false, or_false, false_or, exists_false, Evl.rLenS, rSum, wipe, tYes, exists_eq, exists_eq', rIxL, rIxT, rIxS, exists_and_right, gt_iff_lt, not_true_eq_false, not_false_eq_true, Bool.not_true, Bool.not_false, decide_eq_true_eq, Nat.reduceSub, Nat.reduceAdd, List.append_assoc, tChain, tDIn, tDNotIn, sDDel, tAug, ipI, rInt1_int, rInt1_bl]
    rcases hs with ⟨i, rfl, rfl⟩ | ⟨i, rfl, rfl⟩ | ⟨i, rfl, rfl⟩
    · skip
      refine isi_mk (.int i) (b := false) (by decide +kernel) ?_
      try simp (maxSteps := 1000000) only [tSeq, tIfS, tTest, tOp, tUn, tCB, tCons, tNil, tVar, tC, rI0, rI, rU, rEq, rNe, tRet, tRetN, tAsg, gName, gSub, tBM, tBM0, tNext, tB, tNot, tAnd, tOr, tIf, tCall, tDrop, tBreak, tCont, L2.start, tDGet, sDPut, tTup, tLst, tDNewK, tRevL, rCat, rAppend, rPop, rSetL, tAndV, tOrV, tNotV, tSl, tPart, tNoPart, tM1, gTup, gCons, gNil, cxK, cxnK, List.map_cons, List.map_nil, List.length_cons, List.length_nil, List.replicate, List.cons_append, List.nil_append, List.append_nil, List.set_cons_zero, List.set_cons_succ, List.getElem?_cons_zero, List.getElem?_cons_succ, Option.some.injEq, V.ref.injEq, V.int.injEq, V.str.injEq, V.bl.injEq, V.ty.injEq, exists_eq_left', exists_eq_left, exists_and_left, List.cons.injEq, and_true, true_and, sc_ii, sc_ss, sc_bb, sc_ni, sc_in, sc_is, sc_si, sc_nn, decide_true, decide_false, reduceCtorEq, Bool.false_eq_true, if_true, if_false, ite_true, ite_false, exists_const, eq_self, false_and, and_false, or_false, false_or, exists_false, Evl.rLenS, rSum, wipe, tYes, exists_eq, exists_eq', rIxL, rIxT, rIxS, exists_and_right, gt_iff_lt, not_true_eq_false, not_false_eq_true, Bool.not_true, Bool.not_false, decide_eq_true_eq, Nat.reduceSub, Nat.reduceAdd, List.append_assoc, tChain, tDIn, tDNotIn, sDDel, tAug, ipI, rInt1_int, rInt1_bl]
      refine isi_mk (.int i) (b := false) (by decide +kernel) ?_
      try simp (maxSteps := 1000000) only [tSeq, tIfS, tTest, tOp, tUn, tCB, tCons, tNil, tVar, tC, rI0, rI, rU, rEq, rNe, tRet, tRetN, tAsg, gName, gSub, tBM, tBM0, tNext, tB, tNot, tAnd, tOr, tIf, tCall, tDrop, tBreak, tCont, L2.start, tDGet, sDPut, tTup, tLst, tDNewK, tRevL, rCat, rAppend, rPop, rSetL, tAndV, tOrV, tNotV, tSl, tPart, tNoPart, tM1, gTup, gCons, gNil, cxK, cxnK, List.map_cons, List.map_nil, List.length_cons, List.length_nil, List.replicate, List.cons_append, List.nil_append, List.append_nil, List.set_cons_zero, List.set_cons_succ, List.getElem?_cons_zero, List.getElem?_cons_succ, Option.some.injEq, V.ref.injEq, V.int.injEq, V.str.injEq, V.bl.injEq, V.ty.injEq, exists_eq_left', exists_eq_left, exists_and_left, List.cons.injEq, and_true, true_and, sc_ii, sc_ss, sc_bb, sc_ni, sc_in, sc_is, sc_si, sc_nn, decide_true, decide_false, reduceCtorEq, Bool.false_eq_true, if_true, if_false, ite_true, ite_false, exists_const, eq_self, false_and, and_false, or_false, false_or, exists_false, Evl.rLenS, rSum, wipe, tYes, exists_eq, exists_eq', rIxL, rIxT, rIxS, exists_and_right, gt_iff_lt, not_true_eq_false, not_false_eq_true, Bool.not_true, Bool.not_false, decide_eq_true_eq, Nat.reduceSub, Nat.reduceAdd, List.append_assoc, tChain, tDIn, tDNotIn, sDDel, tAug, ipI, rInt1_int, rInt1_bl]
      refine isi_mk (.int i) (b := false) (by decide +kernel) ?_
      try simp (maxSteps := 1000000) only [tSeq, tIfS, tTest, tOp, tUn, tCB, tCons, tNil, tVar, tC, rI0, rI, rU, rEq, rNe, tRet, tRetN, tAsg, gName, gSub, tBM, tBM0, tNext, tB, tNot, tAnd, tOr, tIf, tCall, tDrop, tBreak, tCont, L2.start, tDGet, sDPut, tTup, tLst, tDNewK, tRevL, rCat, rAppend, rPop, rSetL, tAndV, tOrV, tNotV, tSl, tPart, tNoPart, tM1, gTup, gCons, gNil, cxK, cxnK, List.map_cons, List.map_nil, List.length_cons, List.length_nil, List.replicate, List.cons_append, List.nil_append, List.append_nil, List.set_cons_zero, List.set_cons_succ, List.getElem?_cons_zero, List.getElem?_cons_succ, Option.some.injEq, V.ref.injEq, V.int.injEq, V.str.injEq, V.bl.injEq, V.ty.injEq, exists_eq_left', exists_eq_left, exists_and_left, List.cons.injEq, and_true, true_and, sc_ii, sc_ss, sc_bb, sc_ni, sc_in, sc_is, sc_si, sc_nn, decide_true, decide_false, reduceCtorEq, Bool.false_eq_true, if_true, if_false, ite_true, ite_false, exists_const, eq_self, false_and, and_false, or_false, false_or, exists_false, Evl.rLenS, rSum, wipe, tYes, exists_eq, exists_eq', rIxL, rIxT, rIxS, exists_and_right, gt_iff_lt, not_true_eq_false, not_false_eq_true, Bool.not_true, Bool.not_false, decide_eq_true_eq, Nat.reduceSub, Nat.reduceAdd, List.append_assoc, tChain, tDIn, tDNotIn, sDDel, tAug, ipI, rInt1_int, rInt1_bl]
      refine isi_mk (.int i) (b := false) (by decide +kernel) ?_
      try simp (maxSteps := 1000000) only [tSeq, tIfS, tTest, tOp, tUn, tCB, tCons, tNil, tVar, tC, rI0, rI, rU, rEq, rNe, tRet, tRetN, tAsg, gName, gSub, tBM, tBM0, tNext, tB, tNot, tAnd, tOr, tIf, tCall, tDrop, tBreak, tCont, L2.start, tDGet, sDPut, tTup, tLst, tDNewK, tRevL, rCat, rAppend, rPop, rSetL, tAndV, tOrV, tNotV, tSl, tPart, tNoPart, tM1, gTup, gCons, gNil, cxK, cxnK, List.map_cons, List.map_nil, List.length_cons, List.length_nil, List.replicate, List.cons_append, List.nil_append, List.append_nil, List.set_cons_zero, List.set_cons_succ, List.getElem?_cons_zero, List.getElem?_cons_succ, Option.some.injEq, V.ref.injEq, V.int.injEq, V.str.injEq, V.bl.injEq, V.ty.injEq, exists_eq_left', exists_eq_left, exists_and_left, List.cons.injEq, and_true, true_and, sc_ii, sc_ss, sc_bb, sc_ni, sc_in, sc_is, sc_si, sc_nn, decide_true, decide_false, reduceCtorEq, Bool.false_eq_true, if_true, if_false, ite_true, ite_false, exists_const, eq_self, false_and, and_false, or_false, false_or, exists_false, Evl.rLenS, rSum, wipe, tYes, exists_eq, exists_eq', rIxL, rIxT, rIxS, exists_and_right, gt_iff_lt, not_true_eq_false, not_false_eq_true, Bool.not_true, Bool.not_false, decide_eq_true_eq, Nat.reduceSub, Nat.reduceAdd, List.append_assoc, tChain, tDIn, tDNotIn, sDDel, tAug, ipI, rInt1_int, rInt1_bl]
      refine isi_mk (.int i) (b := true) (by decide +kernel) ?_
      try simp (maxSteps := 1000000) only [tSeq, tIfS, tTest, tOp, tUn, tCB, tCons, tNil, tVar, tC, rI0, rI, rU, rEq, rNe, tRet, tRetN, tAsg, gName, gSub, tBM, tBM0, tNext, tB, tNot, tAnd, tOr, tIf, tCall, tDrop, tBreak, tCont, L2.start, tDGet, sDPut, tTup, tLst, tDNewK, tRevL, rCat, rAppend, rPop, rSetL, tAndV, tOrV, tNotV, tSl, tPart, tNoPart, tM1, gTup, gCons, gNil, cxK, cxnK, List.map_cons, List.map_nil, List.length_cons, List.length_nil, List.replicate, List.cons_append, List.nil_append, List.append_nil, List.set_cons_zero, List.set_cons_succ, List.getElem?_cons_zero, List.getElem?_cons_succ, Option.some.injEq, V.ref.injEq, V.int.injEq, V.str.injEq, V.bl.injEq, V.ty.injEq, exists_eq_left', exists_eq_left, exists_and_left, List.cons.injEq, and_true, true_and, sc_ii, sc_ss, sc_bb, sc_ni, sc_in, sc_is, sc_si, sc_nn, decide_true, decide_false, reduceCtorEq, Bool.false_eq_true, if_true, if_false, ite_true, ite_false, exists_const, eq_self, false_and, and_false, or_false, false_or, exists_false, Evl.rLenS, rSum, wipe, tYes, exists_eq, exists_eq', rIxL, rIxT, rIxS, exists_and_right, gt_iff_lt, not_true_eq_false, not_false_eq_true, Bool.not_true, Bool.not_false, decide_eq_true_eq, Nat.reduceSub, Nat.reduceAdd, List.append_assoc, tChain, tDIn, tDNotIn, sDDel, tAug, ipI, rInt1_int, rInt1_bl]
      refine isi_mk (.int i) (b := true) (by decide +kernel) ?_
      try simp (maxSteps := 1000000) only [tSeq, tIfS, tTest, tOp, tUn, tCB, tCons, tNil, tVar, tC, rI0, rI, rU, rEq, rNe, tRet, tRetN, tAsg, gName, gSub, tBM, tBM0, tNext, tB, tNot, tAnd, tOr, tIf, tCall, tDrop, tBreak, tCont, L2.start, tDGet, sDPut, tTup, tLst, tDNewK, tRevL, rCat, rAppend, rPop, rSetL, tAndV, tOrV, tNotV, tSl, tPart, tNoPart, tM1, gTup, gCons, gNil, cxK, cxnK, List.map_cons, List.map_nil, List.length_cons, List.length_nil, List.replicate, List.cons_append, List.nil_append, List.append_nil, List.set_cons_zero, List.set_cons_succ, List.getElem?_cons_zero, List.getElem?_cons_succ, Option.some.injEq, V.ref.injEq, V.int.injEq, V.str.injEq, V.bl.injEq, V.ty.injEq, exists_eq_left', exists_eq_left, exists_and_left, List.cons.injEq, and_true, true_and, sc_ii, sc_ss, sc_bb, sc_ni, sc_in, sc_is, sc_si, sc_nn, decide_true, decide_false, reduceCtorEq, Bool.false_eq_true, if_true, if_false, ite_true, ite_false, exists_const, eq_self, false_and, and_false, or_false, false_or, exists_false, Evl.rLenS, rSum, wipe, tYes, exists_eq, exists_eq', rIxL, rIxT, rIxS, exists_and_right, gt_iff_lt, not_true_eq_false, not_false_eq_true, Bool.not_true, Bool.not_false, decide_eq_true_eq, Nat.reduceSub, Nat.reduceAdd, List.append_assoc, tChain, tDIn, tDNotIn, sDDel, tAug, ipI, rInt1_int, rInt1_bl]
      refine isi_mk (.int i) (b := false) (by decide +kernel) ?_
      try simp (maxSteps := 1000000) only [tSeq, tIfS, tTest, tOp, tUn, tCB, tCons, tNil, tVar, tC, rI0, rI, rU, rEq, rNe, tRet, tRetN, tAsg, gName, gSub, tBM, tBM0, tNext, tB, tNot, tAnd, tOr, tIf, tCall, tDrop, tBreak, tCont, L2.start, tDGet, sDPut, tTup, tLst, tDNewK, tRevL, rCat, rAppend, rPop, rSetL, tAndV, tOrV, tNotV, tSl, tPart, tNoPart, tM1, gTup, gCons, gNil, cxK, cxnK, List.map_cons, List.map_nil, List.length_cons, List.length_nil, List.replicate, List.cons_append, List.nil_append, List.append_nil, List.set_cons_zero, List.set_cons_succ, List.getElem?_cons_zero, List.getElem?_cons_succ, Option.some.injEq, V.ref.injEq, V.int.injEq, V.str.injEq, V.bl.injEq, V.ty.injEq, exists_eq_left', exists_eq_left, exists_and_left, List.cons.injEq, and_true, true_and, sc_ii, sc_ss, sc_bb, sc_ni, sc_in, sc_is, sc_si, sc_nn, decide_true, decide_false, reduceCtorEq, Bool.false_eq_true, if_true, if_false, ite_true, ite_false, exists_const, eq_self, false_and, and_false, or_false, false_or, exists_false, Evl.rLenS, rSum, wipe, tYes, exists_eq, exists_eq', rIxL, rIxT, rIxS, exists_and_right, gt_iff_lt, not_true_eq_false, not_false_eq_true, Bool.not_true, Bool.not_false, decide_eq_true_eq, Nat.reduceSub, Nat.reduceAdd, List.append_assoc, tChain, tDIn, tDNotIn, sDDel, tAug, ipI, rInt1_int, rInt1_bl]
      refine isi_mk (.int i) (b := false) (by decide +kernel) ?_
      try simp (maxSteps := 1000000) only [tSeq, tIfS, tTest, tOp, tUn, tCB, tCons, tNil, tVar, tC, rI0, rI, rU, rEq, rNe, tRet, tRetN, tAsg, gName, gSub, tBM, tBM0, tNext, tB, tNot, tAnd, tOr, tIf, tCall, tDrop, tBreak, tCont, L2.start, tDGet, sDPut, tTup, tLst, tDNewK, tRevL, rCat, rAppend, rPop, rSetL, tAndV, tOrV, tNotV, tSl, tPart, tNoPart, tM1, gTup, gCons, gNil, cxK, cxnK, List.map_cons, List.map_nil, List.length_cons, List.length_nil, List.replicate, List.cons_append, List.nil_append, List.append_nil, List.set_cons_zero, List.set_cons_succ, List.getElem?_cons_zero, List.getElem?_cons_succ, Option.some.injEq, V.ref.injEq, V.int.injEq, V.str.injEq, V.bl.injEq, V.ty.injEq, exists_eq_left', exists_eq_left, exists_and_left, List.cons.injEq, and_true, true_and, sc_ii, sc_ss, sc_bb, sc_ni, sc_in, sc_is, sc_si, sc_nn, decide_true, decide_false, reduceCtorEq, Bool.false_eq_true, if_true, if_false, ite_true, ite_false, exists_const, eq_self, false_and, and_false, or_false, false_or, exists_false, Evl.rLenS, rSum, wipe, tYes, exists_eq, exists_eq', rIxL, rIxT, rIxS, exists_and_right, gt_iff_lt, not_true_eq_false, not_false_eq_true, Bool.not_true, Bool.not_false, decide_eq_true_eq, Nat.reduceSub, Nat.reduceAdd, List.append_assoc, tChain, tDIn, tDNotIn, sDDel, tAug, ipI, rInt1_int, rInt1_bl]
      exact q
    · skip
      refine isi_mk (.bl i) (b := false) (by decide +kernel) ?_
      try simp (maxSteps := 1000000) only [tSeq, tIfS, tTest, tOp, tUn, tCB, tCons, tNil, tVar, tC, rI0, rI, rU, rEq, rNe, tRet, tRetN, tAsg, gName, gSub, tBM, tBM0, tNext, tB, tNot, tAnd, tOr, tIf, tCall, tDrop, tBreak, tCont, L2.start, tDGet, sDPut, tTup, tLst, tDNewK, tRevL, rCat, rAppend, rPop, rSetL, tAndV, tOrV, tNotV, tSl, tPart, tNoPart, tM1, gTup, gCons, gNil, cxK, cxnK, List.map_cons, List.map_nil, List.length_cons, List.length_nil, List.replicate, List.cons_append, List.nil_append, List.append_nil, List.set_cons_zero, List.set_cons_succ, List.getElem?_cons_zero, List.getElem?_cons_succ, Option.some.injEq, V.ref.injEq, V.int.injEq, V.str.injEq, V.bl.injEq, V.ty.injEq, exists_eq_left', exists_eq_left, exists_and_left, List.cons.injEq, and_true, true_and, sc_ii, sc_ss, sc_bb, sc_ni, sc_in, sc_is, sc_si, sc_nn, decide_true, decide_false, reduceCtorEq, Bool.false_eq_true, if_true, if_false, ite_true, ite_false, exists_const, eq_self, false_and, and_false, or_false, false_or, exists_false, Evl.rLenS, rSum, wipe, tYes, exists_eq, exists_eq', rIxL, rIxT, rIxS, exists_and_right, gt_iff_lt, not_true_eq_false, not_false_eq_true, Bool.not_true, Bool.not_false, decide_eq_true_eq, Nat.reduceSub, Nat.reduceAdd, List.append_assoc, tChain, tDIn, tDNotIn, sDDel, tAug, ipI, rInt1_int, rInt1_bl]
      refine isi_mk (.bl i) (b := false) (by decide +kernel) ?_
      try simp (maxSteps := 1000000) only [tSeq, tIfS, tTest, tOp, tUn, tCB, tCons, tNil, tVar, tC, rI0, rI, rU, rEq, rNe, tRet, tRetN, tAsg, gName, gSub, tBM, tBM0, tNext, tB, tNot, tAnd, tOr, tIf, tCall, tDrop, tBreak, tCont, L2.start, tDGet, sDPut, tTup, tLst, tDNewK, tRevL, rCat, rAppend, rPop, rSetL, tAndV, tOrV, tNotV, tSl, tPart, tNoPart, tM1, gTup, gCons, gNil, cxK, cxnK, List.map_cons, List.map_nil, List.length_cons, List.length_nil, List.replicate, List.cons_append, List.nil_append, List.append_nil, List.set_cons_zero, List.set_cons_succ, List.getElem?_cons_zero, List.getElem?_cons_succ, Option.some.injEq, V.ref.injEq, V.int.injEq, V.str.injEq, V.bl.injEq, V.ty.injEq, exists_eq_left', exists_eq_left, exists_and_left, List.cons.injEq, and_true, true_and, sc_ii, sc_ss, sc_bb, sc_ni, sc_in, sc_is, sc_si, sc_nn, decide_true, decide_false, reduceCtorEq, Bool.false_eq_true, if_true, if_false, ite_true, ite_false, exists_const, eq_self, false_and, and_false, or_false, false_or, exists_false, Evl.rLenS, rSum, wipe, tYes, exists_eq, exists_eq', rIxL, rIxT, rIxS, exists_and_right, gt_iff_lt, not_true_eq_false, not_false_eq_true, Bool.not_true, Bool.not_false, decide_eq_true_eq, Nat.reduceSub, Nat.reduceAdd, List.append_assoc, tChain, tDIn, tDNotIn, sDDel, tAug, ipI, rInt1_int, rInt1_bl]
      refine isi_mk (.bl i) (b := true) (by decide +kernel) ?_
      try simp (maxSteps := 1000000) only [tSeq, tIfS, tTest, tOp, tUn, tCB, tCons, tNil, tVar, tC, rI0, rI, rU, rEq, rNe, tRet, tRetN, tAsg, gName, gSub, tBM, tBM0, tNext, tB, tNot, tAnd, tOr, tIf, tCall, tDrop, tBreak, tCont, L2.start, tDGet, sDPut, tTup, tLst, tDNewK, tRevL, rCat, rAppend, rPop, rSetL, tAndV, tOrV, tNotV, tSl, tPart, tNoPart, tM1, gTup, gCons, gNil, cxK, cxnK, List.map_cons, List.map_nil, List.length_cons, List.length_nil, List.replicate, List.cons_append, List.nil_append, List.append_nil, List.set_cons_zero, List.set_cons_succ, List.getElem?_cons_zero, List.getElem?_cons_succ, Option.some.injEq, V.ref.injEq, V.int.injEq, V.str.injEq, V.bl.injEq, V.ty.injEq, exists_eq_left', exists_eq_left, exists_and_left, List.cons.injEq, and_true, true_and, sc_ii, sc_ss, sc_bb, sc_ni, sc_in, sc_is, sc_si, sc_nn, decide_true, decide_false, reduceCtorEq, Bool.false_eq_true, if_true, if_false, ite_true, ite_false, exists_const, eq_self, false_and, and_false, or_false, false_or, exists_false, Evl.rLenS, rSum, wipe, tYes, exists_eq, exists_eq', rIxL, rIxT, rIxS, exists_and_right, gt_iff_lt, not_true_eq_false, not_false_eq_true, Bool.not_true, Bool.not_false, decide_eq_true_eq, Nat.reduceSub, Nat.reduceAdd, List.append_assoc, tChain, tDIn, tDNotIn, sDDel, tAug, ipI, rInt1_int, rInt1_bl]
      refine isi_mk (.bl i) (b := true) (by decide +kernel) ?_
      try simp (maxSteps := 1000000) only [tSeq, tIfS, tTest, tOp, tUn, tCB, tCons, tNil, tVar, tC, rI0, rI, rU, rEq, rNe, tRet, tRetN, tAsg, gName, gSub, tBM, tBM0, tNext, tB, tNot, tAnd, tOr, tIf, tCall, tDrop, tBreak, tCont, L2.start, tDGet, sDPut, tTup, tLst, tDNewK, tRevL, rCat, rAppend, rPop, rSetL, tAndV, tOrV, tNotV, tSl, tPart, tNoPart, tM1, gTup, gCons, gNil, cxK, cxnK, List.map_cons, List.map_nil, List.length_cons, List.length_nil, List.replicate, List.cons_append, List.nil_append, List.append_nil, List.set_cons_zero, List.set_cons_succ, List.getElem?_cons_zero, List.getElem?_cons_succ, Option.some.injEq, V.ref.injEq, V.int.injEq, V.str.injEq, V.bl.injEq, V.ty.injEq, exists_eq_left', exists_eq_left, exists_and_left, List.cons.injEq, and_true, true_and, sc_ii, sc_ss, sc_bb, sc_ni, sc_in, sc_is, sc_si, sc_nn, decide_true, decide_false, reduceCtorEq, Bool.false_eq_true, if_true, if_false, ite_true, ite_false, exists_const, eq_self, false_and, and_false, or_false, false_or, exists_false, Evl.rLenS, rSum, wipe, tYes, exists_eq, exists_eq', rIxL, rIxT, rIxS, exists_and_right, gt_iff_lt, not_true_eq_false, not_false_eq_true, Bool.not_true, Bool.not_false, decide_eq_true_eq, Nat.reduceSub, Nat.reduceAdd, List.append_assoc, tChain, tDIn, tDNotIn, sDDel, tAug, ipI, rInt1_int, rInt1_bl]
      refine isi_mk (.bl i) (b := true) (by decide +kernel) ?_
      try simp (maxSteps := 1000000) only [tSeq, tIfS, tTest, tOp, tUn, tCB, tCons, tNil, tVar, tC, rI0, rI, rU, rEq, rNe, tRet, tRetN, tAsg, gName, gSub, tBM, tBM0, tNext, tB, tNot, tAnd, tOr, tIf, tCall, tDrop, tBreak, tCont, L2.start, tDGet, sDPut, tTup, tLst, tDNewK, tRevL, rCat, rAppend, rPop, rSetL, tAndV, tOrV, tNotV, tSl, tPart, tNoPart, tM1, gTup, gCons, gNil, cxK, cxnK, List.map_cons, List.map_nil, List.length_cons, List.length_nil, List.replicate, List.cons_append, List.nil_append, List.append_nil, List.set_cons_zero, List.set_cons_succ, List.getElem?_cons_zero, List.getElem?_cons_succ, Option.some.injEq, V.ref.injEq, V.int.injEq, V.str.injEq, V.bl.injEq, V.ty.injEq, exists_eq_left', exists_eq_left, exists_and_left, List.cons.injEq, and_true, true_and, sc_ii, sc_ss, sc_bb, sc_ni, sc_in, sc_is, sc_si, sc_nn, decide_true, decide_false, reduceCtorEq, Bool.false_eq_true, if_true, if_false, ite_true, ite_false, exists_const, eq_self, false_and, and_false, or_false, false_or, exists_false, Evl.rLenS, rSum, wipe, tYes, exists_eq, exists_eq', rIxL, rIxT, rIxS, exists_and_right, gt_iff_lt, not_true_eq_false, not_false_eq_true, Bool.not_true, Bool.not_false, decide_eq_true_eq, Nat.reduceSub, Nat.reduceAdd, List.append_assoc, tChain, tDIn, tDNotIn, sDDel, tAug, ipI, rInt1_int, rInt1_bl]
      refine isi_mk (.bl i) (b := true) (by decide +kernel) ?_
      try simp (maxSteps := 1000000) only [tSeq, tIfS, tTest, tOp, tUn, tCB, tCons, tNil, tVar, tC, rI0, rI, rU, rEq, rNe, tRet, tRetN, tAsg, gName, gSub, tBM, tBM0, tNext, tB, tNot, tAnd, tOr, tIf, tCall, tDrop, tBreak, tCont, L2.start, tDGet, sDPut, tTup, tLst, tDNewK, tRevL, rCat, rAppend, rPop, rSetL, tAndV, tOrV, tNotV, tSl, tPart, tNoPart, tM1, gTup, gCons, gNil, cxK, cxnK, List.map_cons, List.map_nil, List.length_cons, List.length_nil, List.replicate, List.cons_append, List.nil_append, List.append_nil, List.set_cons_zero, List.set_cons_succ, List.getElem?_cons_zero, List.getElem?_cons_succ, Option.some.injEq, V.ref.injEq, V.int.injEq, V.str.injEq, V.bl.injEq, V.ty.injEq, exists_eq_left', exists_eq_left, exists_and_left, List.cons.injEq, and_true, true_and, sc_ii, sc_ss, sc_bb, sc_ni, sc_in, sc_is, sc_si, sc_nn, decide_true, decide_false, reduceCtorEq, Bool.false_eq_true, if_true, if_false, ite_true, ite_false, exists_const, eq_self, false_and, and_false, or_false, false_or, exists_false, Evl.rLenS, rSum, wipe, tYes, exists_eq, exists_eq', rIxL, rIxT, rIxS, exists_and_right, gt_iff_lt, not_true_eq_false, not_false_eq_true, Bool.not_true, Bool.not_false, decide_eq_true_eq, Nat.reduceSub, Nat.reduceAdd, List.append_assoc, tChain, tDIn, tDNotIn, sDDel, tAug, ipI, rInt1_int, rInt1_bl]
      refine isi_mk (.bl i) (b := false) (by decide +kernel) ?_
      try simp (maxSteps := 1000000) only [tSeq, tIfS, tTest, tOp, tUn, tCB, tCons, tNil, tVar, tC, rI0, rI, rU, rEq, rNe, tRet, tRetN, tAsg, gName, gSub, tBM, tBM0, tNext, tB, tNot, tAnd, tOr, tIf, tCall, tDrop, tBreak, tCont, L2.start, tDGet, sDPut, tTup, tLst, tDNewK, tRevL, rCat, rAppend, rPop, rSetL, tAndV, tOrV, tNotV, tSl, tPart, tNoPart, tM1, gTup, gCons, gNil, cxK, cxnK, List.map_cons, List.map_nil, List.length_cons, List.length_nil, List.replicate, List.cons_append, List.nil_append, List.append_nil, List.set_cons_zero, List.set_cons_succ, List.getElem?_cons_zero, List.getElem?_cons_succ, Option.some.injEq, V.ref.injEq, V.int.injEq, V.str.injEq, V.bl.injEq, V.ty.injEq, exists_eq_left', exists_eq_left, exists_and_left, List.cons.injEq, and_true, true_and, sc_ii, sc_ss, sc_bb, sc_ni, sc_in, sc_is, sc_si, sc_nn, decide_true, decide_false, reduceCtorEq, Bool.false_eq_true, if_true, if_false, ite_true, ite_false, exists_const, eq_self, false_and, and_false, or_false, false_or, exists_false, Evl.rLenS, rSum, wipe, tYes, exists_eq, exists_eq', rIxL, rIxT, rIxS, exists_and_right, gt_iff_lt, not_true_eq_false, not_false_eq_true, Bool.not_true, Bool.not_false, decide_eq_true_eq, Nat.reduceSub, Nat.reduceAdd, List.append_assoc, tChain, tDIn, tDNotIn, sDDel, tAug, ipI, rInt1_int, rInt1_bl]
      refine isi_mk (.bl i) (b := false) (by decide +kernel) ?_
      try simp (maxSteps := 1000000) only [tSeq, tIfS, tTest, tOp, tUn, tCB, tCons, tNil, tVar, tC, rI0, rI, rU, rEq, rNe, tRet, tRetN, tAsg, gName, gSub, tBM, tBM0, tNext, tB, tNot, tAnd, tOr, tIf, tCall, tDrop, tBreak, tCont, L2.start, tDGet, sDPut, tTup, tLst, tDNewK, tRevL, rCat, rAppend, rPop, rSetL, tAndV, tOrV, tNotV, tSl, tPart, tNoPart, tM1, gTup, gCons, gNil, cxK, cxnK, List.map_cons, List.map_nil, List.length_cons, List.length_nil, List.replicate, List.cons_append, List.nil_append, List.append_nil, List.set_cons_zero, List.set_cons_succ, List.getElem?_cons_zero, List.getElem?_cons_succ, Option.some.injEq, V.ref.injEq, V.int.injEq, V.str.injEq, V.bl.injEq, V.ty.injEq, exists_eq_left', exists_eq_left, exists_and_left, List.cons.injEq, and_true, true_and, sc_ii, sc_ss, sc_bb, sc_ni, sc_in, sc_is, sc_si, sc_nn, decide_true, decide_false, reduceCtorEq, Bool.false_eq_true, if_true, if_false, ite_true, ite_false, exists_const, eq_self, false_and, and_false, or_false, false_or, exists_false, Evl.rLenS, rSum, wipe, tYes, exists_eq, exists_eq', rIxL, rIxT, rIxS, exists_and_right, gt_iff_lt, not_true_eq_false, not_false_eq_true, Bool.not_true, Bool.not_false, decide_eq_true_eq, Nat.reduceSub, Nat.reduceAdd, List.append_assoc, tChain, tDIn, tDNotIn, sDDel, tAug, ipI, rInt1_int, rInt1_bl]
      exact q
    · skip
      refine isi_mk (.str i) (b := false) (by decide +kernel) ?_
      try simp (maxSteps := 1000000) only [tSeq, tIfS, tTest, tOp, tUn, tCB, tCons, tNil, tVar, tC, rI0, rI, rU, rEq, rNe, tRet, tRetN, tAsg, gName, gSub, tBM, tBM0, tNext, tB, tNot, tAnd, tOr, tIf, tCall, tDrop, tBreak, tCont, L2.start, tDGet, sDPut, tTup, tLst, tDNewK, tRevL, rCat, rAppend, rPop, rSetL, tAndV, tOrV, tNotV, tSl, tPart, tNoPart, tM1, gTup, gCons, gNil, cxK, cxnK, List.map_cons, List.map_nil, List.length_cons, List.length_nil, List.replicate, List.cons_append, List.nil_append, List.append_nil, List.set_cons_zero, List.set_cons_succ, List.getElem?_cons_zero, List.getElem?_cons_succ, Option.some.injEq, V.ref.injEq, V.int.injEq, V.str.injEq, V.bl.injEq, V.ty.injEq, exists_eq_left', exists_eq_left, exists_and_left, List.cons.injEq, and_true, true_and, sc_ii, sc_ss, sc_bb, sc_ni, sc_in, sc_is, sc_si, sc_nn, decide_true, decide_false, reduceCtorEq, Bool.false_eq_true, if_true, if_false, ite_true, ite_false, exists_const, eq_self, false_and, and_false, or_false, false_or, exists_false, Evl.rLenS, rSum, wipe, tYes, exists_eq, exists_eq', rIxL, rIxT, rIxS, exists_and_right, gt_iff_lt, not_true_eq_false, not_false_eq_true, Bool.not_true, Bool.not_false, decide_eq_true_eq, Nat.reduceSub, Nat.reduceAdd, List.append_assoc, tChain, tDIn, tDNotIn, sDDel, tAug, ipI, rInt1_int, rInt1_bl]
      refine isi_mk (.str i) (b := false) (by decide +kernel) ?_
      try simp (maxSteps := 1000000) only [tSeq, tIfS, tTest, tOp, tUn, tCB, tCons, tNil, tVar, tC, rI0, rI, rU, rEq, rNe, tRet, tRetN, tAsg, gName, gSub, tBM, tBM0, tNext, tB, tNot, tAnd, tOr, tIf, tCall, tDrop, tBreak, tCont, L2.start, tDGet, sDPut, tTup, tLst, tDNewK, tRevL, rCat, rAppend, rPop, rSetL, tAndV, tOrV, tNotV, tSl, tPart, tNoPart, tM1, gTup, gCons, gNil, cxK, cxnK, List.map_cons, List.map_nil, List.length_cons, List.length_nil, List.replicate, List.cons_append, List.nil_append, List.append_nil, List.set_cons_zero, List.set_cons_succ, List.getElem?_cons_zero, List.getElem?_cons_succ, Option.some.injEq, V.ref.injEq, V.int.injEq, V.str.injEq, V.bl.injEq, V.ty.injEq, exists_eq_left', exists_eq_left, exists_and_left, List.cons.injEq, and_true, true_and, sc_ii, sc_ss, sc_bb, sc_ni, sc_in, sc_is, sc_si, sc_nn, decide_true, decide_false, reduceCtorEq, Bool.false_eq_true, if_true, if_false, ite_true, ite_false, exists_const, eq_self, false_and, and_false, or_false, false_or, exists_false, Evl.rLenS, rSum, wipe, tYes, exists_eq, exists_eq', rIxL, rIxT, rIxS, exists_and_right, gt_iff_lt, not_true_eq_false, not_false_eq_true, Bool.not_true, Bool.not_false, decide_eq_true_eq, Nat.reduceSub, Nat.reduceAdd, List.append_assoc, tChain, tDIn, tDNotIn, sDDel, tAug, ipI, rInt1_int, rInt1_bl]
      refine isi_mk (.str i) (b := false) (by decide +kernel) ?_
      try simp (maxSteps := 1000000) only [tSeq, tIfS, tTest, tOp, tUn, tCB, tCons, tNil, tVar, tC, rI0, rI, rU, rEq, rNe, tRet, tRetN, tAsg, gName, gSub, tBM, tBM0, tNext, tB, tNot, tAnd, tOr, tIf, tCall, tDrop, tBreak, tCont, L2.start, tDGet, sDPut, tTup, tLst, tDNewK, tRevL, rCat, rAppend, rPop, rSetL, tAndV, tOrV, tNotV, tSl, tPart, tNoPart, tM1, gTup, gCons, gNil, cxK, cxnK, List.map_cons, List.map_nil, List.length_cons, List.length_nil, List.replicate, List.cons_append, List.nil_append, List.append_nil, List.set_cons_zero, List.set_cons_succ, List.getElem?_cons_zero, List.getElem?_cons_succ, Option.some.injEq, V.ref.injEq, V.int.injEq, V.str.injEq, V.bl.injEq, V.ty.injEq, exists_eq_left', exists_eq_left, exists_and_left, List.cons.injEq, and_true, true_and, sc_ii, sc_ss, sc_bb, sc_ni, sc_in, sc_is, sc_si, sc_nn, decide_true, decide_false, reduceCtorEq, Bool.false_eq_true, if_true, if_false, ite_true, ite_false, exists_const, eq_self, false_and, and_false, or_false, false_or, exists_false, Evl.rLenS, rSum, wipe, tYes, exists_eq, exists_eq', rIxL, rIxT, rIxS, exists_and_right, gt_iff_lt, not_true_eq_false, not_false_eq_true, Bool.not_true, Bool.not_false, decide_eq_true_eq, Nat.reduceSub, Nat.reduceAdd, List.append_assoc, tChain, tDIn, tDNotIn, sDDel, tAug, ipI, rInt1_int, rInt1_bl]
      refine isi_mk (.str i) (b := false) (by decide +kernel) ?_
      try simp (maxSteps := 1000000) only [tSeq, tIfS, tTest, tOp, tUn, tCB, tCons, tNil, tVar, tC, rI0, rI, rU, rEq, rNe, tRet, tRetN, tAsg, gName, gSub, tBM, tBM0, tNext, tB, tNot, tAnd, tOr, tIf, tCall, tDrop, tBreak, tCont, L2.start, tDGet, sDPut, tTup, tLst, tDNewK, tRevL, rCat, rAppend, rPop, rSetL, tAndV, tOrV, tNotV, tSl, tPart, tNoPart, tM1, gTup, gCons, gNil, cxK, cxnK, List.map_cons, List.map_nil, List.length_cons, List.length_nil, List.replicate, List.cons_append, List.nil_append, List.append_nil, List.set_cons_zero, List.set_cons_succ, List.getElem?_cons_zero, List.getElem?_cons_succ, Option.some.injEq, V.ref.injEq, V.int.injEq, V.str.injEq, V.bl.injEq, V.ty.injEq, exists_eq_left', exists_eq_left, exists_and_left, List.cons.injEq, and_true, true_and, sc_ii, sc_ss, sc_bb, sc_ni, sc_in, sc_is, sc_si, sc_nn, decide_true, decide_false, reduceCtorEq, Bool.false_eq_true, if_true, if_false, ite_true, ite_false, exists_const, eq_self, false_and, and_false, or_false, false_or, exists_false, Evl.rLenS, rSum, wipe, tYes, exists_eq, exists_eq', rIxL, rIxT, rIxS, exists_and_right, gt_iff_lt, not_true_eq_false, not_false_eq_true, Bool.not_true, Bool.not_false, decide_eq_true_eq, Nat.reduceSub, Nat.reduceAdd, List.append_assoc, tChain, tDIn, tDNotIn, sDDel, tAug, ipI, rInt1_int, rInt1_bl]
      refine isi_mk (.str i) (b := false) (by decide +kernel) ?_
      try simp (maxSteps := 1000000) only [tSeq, tIfS, tTest, tOp, tUn, tCB, tCons, tNil, tVar, tC, rI0, rI, rU, rEq, rNe, tRet, tRetN, tAsg, gName, gSub, tBM, tBM0, tNext, tB, tNot, tAnd, tOr, tIf, tCall, tDrop, tBreak, tCont, L2.start, tDGet, sDPut, tTup, tLst, tDNewK, tRevL, rCat, rAppend, rPop, rSetL, tAndV, tOrV, tNotV, tSl, tPart, tNoPart, tM1, gTup, gCons, gNil, cxK, cxnK, List.map_cons, List.map_nil, List.length_cons, List.length_nil, List.replicate, List.cons_append, List.nil_append, List.append_nil, List.set_cons_zero, List.set_cons_succ, List.getElem?_cons_zero, List.getElem?_cons_succ, Option.some.injEq, V.ref.injEq, V.int.injEq, V.str.injEq, V.bl.injEq, V.ty.injEq, exists_eq_left', exists_eq_left, exists_and_left, List.cons.injEq, and_true, true_and, sc_ii, sc_ss, sc_bb, sc_ni, sc_in, sc_is, sc_si, sc_nn, decide_true, decide_false, reduceCtorEq, Bool.false_eq_true, if_true, if_false, ite_true, ite_false, exists_const, eq_self, false_and, and_false, or_false, false_or, exists_false, Evl.rLenS, rSum, wipe, tYes, exists_eq, exists_eq', rIxL, rIxT, rIxS, exists_and_right, gt_iff_lt, not_true_eq_false, not_false_eq_true, Bool.not_true, Bool.not_false, decide_eq_true_eq, Nat.reduceSub, Nat.reduceAdd, List.append_assoc, tChain, tDIn, tDNotIn, sDDel, tAug, ipI, rInt1_int, rInt1_bl]
      refine isi_mk (.str i) (b := false) (by decide +kernel) ?_
      try simp (maxSteps := 1000000) only [tSeq, tIfS, tTest, tOp, tUn, tCB, tCons, tNil, tVar, tC, rI0, rI, rU, rEq, rNe, tRet, tRetN, tAsg, gName, gSub, tBM, tBM0, tNext, tB, tNot, tAnd, tOr, tIf, tCall, tDrop, tBreak, tCont, L2.start, tDGet, sDPut, tTup, tLst, tDNewK, tRevL, rCat, rAppend, rPop, rSetL, tAndV, tOrV, tNotV, tSl, tPart, tNoPart, tM1, gTup, gCons, gNil, cxK, cxnK, List.map_cons, List.map_nil, List.length_cons, List.length_nil, List.replicate, List.cons_append, List.nil_append, List.append_nil, List.set_cons_zero, List.set_cons_succ, List.getElem?_cons_zero, List.getElem?_cons_succ, Option.some.injEq, V.ref.injEq, V.int.injEq, V.str.injEq, V.bl.injEq, V.ty.injEq, exists_eq_left', exists_eq_left, exists_and_left, List.cons.injEq, and_true, true_and, sc_ii, sc_ss, sc_bb, sc_ni, sc_in, sc_is, sc_si, sc_nn, decide_true, decide_false, reduceCtorEq, Bool.false_eq_true, if_true, if_false, ite_true, ite_false, exists_const, eq_self, false_and, and_false, or_false, false_or, exists_false, Evl.rLenS, rSum, wipe, tYes, exists_eq, exists_eq', rIxL, rIxT, rIxS, exists_and_right, gt_iff_lt, not_true_eq_false, not_false_eq_true, Bool.not_true, Bool.not_false, decide_eq_true_eq, Nat.reduceSub, Nat.reduceAdd, List.append_assoc, tChain, tDIn, tDNotIn, sDDel, tAug, ipI, rInt1_int, rInt1_bl]
      refine isi_mk (.str i) (b := true) (by decide +kernel) ?_
      try simp (maxSteps := 1000000) only [tSeq, tIfS, tTest, tOp, tUn, tCB, tCons, tNil, tVar, tC, rI0, rI, rU, rEq, rNe, tRet, tRetN, tAsg, gName, gSub, tBM, tBM0, tNext, tB, tNot, tAnd, tOr, tIf, tCall, tDrop, tBreak, tCont, L2.start, tDGet, sDPut, tTup, tLst, tDNewK, tRevL, rCat, rAppend, rPop, rSetL, tAndV, tOrV, tNotV, tSl, tPart, tNoPart, tM1, gTup, gCons, gNil, cxK, cxnK, List.map_cons, List.map_nil, List.length_cons, List.length_nil, List.replicate, List.cons_append, List.nil_append, List.append_nil, List.set_cons_zero, List.set_cons_succ, List.getElem?_cons_zero, List.getElem?_cons_succ, Option.some.injEq, V.ref.injEq, V.int.injEq, V.str.injEq, V.bl.injEq, V.ty.injEq, exists_eq_left', exists_eq_left, exists_and_left, List.cons.injEq, and_true, true_and, sc_ii, sc_ss, sc_bb, sc_ni, sc_in, sc_is, sc_si, sc_nn, decide_true, decide_false, reduceCtorEq, Bool.false_eq_true, if_true, if_false, ite_true, ite_false, exists_const, eq_self, false_and, and_false, or_false, false_or, exists_false, Evl.rLenS, rSum, wipe, tYes, exists_eq, exists_eq', rIxL, rIxT, rIxS, exists_and_right, gt_iff_lt, not_true_eq_false, not_false_eq_true, Bool.not_true, Bool.not_false, decide_eq_true_eq, Nat.reduceSub, Nat.reduceAdd, List.append_assoc, tChain, tDIn, tDNotIn, sDDel, tAug, ipI, rInt1_int, rInt1_bl]
      refine isi_mk (.str i) (b := true) (by decide +kernel) ?_
      try simp (maxSteps := 1000000) only [tSeq, tIfS, tTest, tOp, tUn, tCB, tCons, tNil, tVar, tC, rI0, rI, rU, rEq, rNe, tRet, tRetN, tAsg, gName, gSub, tBM, tBM0, tNext, tB, tNot, tAnd, tOr, tIf, tCall, tDrop, tBreak, tCont, L2.start, tDGet, sDPut, tTup, tLst, tDNewK, tRevL, rCat, rAppend, rPop, rSetL, tAndV, tOrV, tNotV, tSl, tPart, tNoPart, tM1, gTup, gCons, gNil, cxK, cxnK, List.map_cons, List.map_nil, List.length_cons, List.length_nil, List.replicate, List.cons_append, List.nil_append, List.append_nil, List.set_cons_zero, List.set_cons_succ, List.getElem?_cons_zero, List.getElem?_cons_succ, Option.some.injEq, V.ref.injEq, V.int.injEq, V.str.injEq, V.bl.injEq, V.ty.injEq, exists_eq_left', exists_eq_left, exists_and_left, List.cons.injEq, and_true, true_and, sc_ii, sc_ss, sc_bb, sc_ni, sc_in, sc_is, sc_si, sc_nn, decide_true, decide_false, reduceCtorEq, Bool.false_eq_true, if_true, if_false, ite_true, ite_false, exists_const, eq_self, false_and, and_false, or_false, false_or, exists_false, Evl.rLenS, rSum, wipe, tYes, exists_eq, exists_eq', rIxL, rIxT, rIxS, exists_and_right, gt_iff_lt, not_true_eq_false, not_false_eq_true, Bool.not_true, Bool.not_false, decide_eq_true_eq, Nat.reduceSub, Nat.reduceAdd, List.append_assoc, tChain, tDIn, tDNotIn, sDDel, tAug, ipI, rInt1_int, rInt1_bl]
      exact q
end
/-! ### when rows are the same -/
theorem TD.same {H : Hp} {t u : Addr} {d : Dd} (h : TD H t d) (h' : TD H u d) : SameD 1 H (.ref t) (.ref u) := by
  refine .inr ⟨t, u, _, _, rfl, rfl, .inr ⟨h, h'⟩, rfl, by show 3 ≤ 5000; decide, fun i x y e e' => ?_⟩
  match i, e, e' with
  | 0, e, e' => cases e; cases e'; exact .inl ⟨_, rfl, rfl⟩
  | 1, e, e' => cases e; cases e'; exact .inr (.inr ⟨_, rfl, rfl⟩)
  | 2, e, e' =>
    cases e; cases e'
    cases d.2.2 with
    | inl i => exact .inl ⟨_, rfl, rfl⟩
    | inr z => exact .inr (.inr ⟨_, rfl, rfl⟩)
theorem TM.same {H : Hp} {x y : V} {m : Mv} (h : TM H x m) (h' : TM H y m) : SameD 2 H x y := by
  obtain ⟨a, t, rfl, ha, ht⟩ := h
  obtain ⟨b, u, rfl, hb, hu⟩ := h'
  refine .inr ⟨a, b, _, _, rfl, rfl, .inr ⟨ha, hb⟩, rfl, by show 2 ≤ 5000; decide, fun i x y e e' => ?_⟩
  match i, e, e' with
  | 0, e, e' => cases e; cases e'; exact ht.same hu
  | 1, e, e' => cases e; cases e'; exact .inl (.inl ⟨_, rfl, rfl⟩)
theorem RwAt.same {H : Hp} {x y : V} {ms : List Mv} (h : RwAt H x ms) (h' : RwAt H y ms) (l : ms.length ≤ 1000) : SameD 3 H x y := by
  obtain ⟨a, us, rfl, ha, hu⟩ := h
  obtain ⟨b, vs, rfl, hb, hv⟩ := h'
  refine .inr ⟨a, b, us, vs, rfl, rfl, .inl ⟨ha, hb⟩, by rw [hu.len, hv.len], by rw [hu.len]; omega, fun i x y e e' => ?_⟩
  obtain ⟨m, em, hm⟩ := hu.get e
  obtain ⟨m', em', hm'⟩ := hv.get e'
  rw [em] at em'; cases em'
  exact hm.same hm'
theorem rows_same {H : Hp} {a b : Addr} {us vs : List V} {rows : List (List Mv)} (ha : H a = some (.lst us)) (hb : H b = some (.lst vs)) (hu : Rw (RwAt H) us rows) (hv : Rw (RwAt H) vs rows) (l : rows.length ≤ 1000) (lr : ∀ r ∈ rows, r.length ≤ 1000) : SameD 4 H (.ref a) (.ref b) := by
  refine .inr ⟨a, b, us, vs, rfl, rfl, .inl ⟨ha, hb⟩, by rw [hu.len, hv.len], by rw [hu.len]; omega, fun i x y e e' => ?_⟩
  obtain ⟨m, em, hm⟩ := hu.get e
  obtain ⟨m', em', hm'⟩ := hv.get e'
  rw [em] at em'; cases em'
  exact hm.same hm' (lr m (List.mem_of_getElem? em))
end My

set_option Elab.async false
set_option linter.all false
set_option maxRecDepth 100000
set_option maxHeartbeats 4000000
namespace My
open PySem L2 NdefX
abbrev s_law_cell : Stmt := top 18
theorem sc_law_cell : FnScope ["_law_script", "_law_k", "_law_seed", "_law_one"] ["_law_script", "_law_k"] (defScope s_law_cell) := ⟨rfl, rfl, rfl, by decide +kernel, rfl, by decide +kernel, by decide +kernel⟩
abbrev s_law_draws : Stmt := top 19
theorem sc_law_draws : FnScope ["_law_cell_here", "_law_spans", "_law_left", "_law_out", "_law_k", "_law_one", "_law_two"] ["_law_cell_here", "_law_spans"] (defScope s_law_draws) := ⟨rfl, rfl, rfl, by decide +kernel, rfl, by decide +kernel, by decide +kernel⟩
structure BtG (mg : Str → Option Value) : Prop where
  b_len : mg "len" = none
  b_int : mg "int" = none
  b_abs : mg "abs" = none
  b_range : mg "range" = none
def Scr (K : PySem.W.Frag) (H : Hp) (a : Addr) (ns : List Int) : Prop := SqL K H a (ns.map V.int) ∧ ns.length ≤ 63
theorem Scr.kp {K : PySem.W.Frag} {H H' : Hp} {a : Addr} {ns : List Int} (h : Scr K H a ns) (k : Kp [] H H') : Scr K H' a ns := ⟨k.ls not0 h.1, h.2⟩
section
variable {P : Program} {w : World} {K : PySem.W.Frag} {mg : Str → Option Value} {base : Heap}
def spCell (K : PySem.W.Frag) : Sp := fun vs H Q _ => ∃ (a : Addr) (k : Nat) (ns : List Int), vs = [.ref a, .int (k : Nat)] ∧ Scr K H a ns ∧ k ≤ 1000 ∧ ∀ (r : Int) H', 0 ≤ r → Kp [] H H' → Q (.int r) H'
theorem ok_law_cell {f : Addr} {fd : FuncData} (D : Df K mg "_law_cell" s_law_cell ["_law_script", "_law_k"] f fd) (T : BtG mg) : FnOk P w K mg base CX0 1 f fd ["_law_script", "_law_k"] (spCell K) := by
  refine D.F.ok sc_law_cell (fun vs H Q E h => ?_) (fun cdv A outer s H vs Q E hr h => ?_)
  · obtain ⟨_, _, _, rfl, _⟩ := h
    rfl
  · obtain ⟨a, k, ns, rfl, ⟨hS, hl⟩, k1, q⟩ := h
    refine ⟨_, (pss_cons (ps_if (pt_cmpR op_lt (pv 1) (pe_callB (id := "len") (r := Evl.rLenS K) call_len_seq (by rfl) T.b_len PySem.boot_len (pa_cons (pv 0) pa_nil)) (nomark _)) (pss_one (ps_ret (pe_callB (id := "abs") call_abs (by rfl) T.b_abs (by decide +kernel) (pa_cons (pe_callTy (T := "int") (r := rInt1) call_int1 (by rfl) T.b_int (by decide +kernel) (pa_cons (pe_ix (r := rIxL K) ix_list (pv 0) (pv 1) (fun _ _ => rfl)) pa_nil)) pa_nil)))) pss_nil)
      (pss_cons (ps_set (i := 2) sc_law_cell.nd rfl (Or.inl rfl) (pe_op op_add (pe_op op_mul pe_int (pv 1)) (pe_callB (id := "len") (r := Evl.rLenS K) call_len_seq (by rfl) T.b_len PySem.boot_len (pa_cons (pv 0) pa_nil))))
      (pss_cons (ps_for PassesOwn.never rfl (pi_list (pv 0)) (pg_name (i := 3) sc_law_cell.nd rfl (Or.inl rfl)) (pss_one (ps_set (i := 2) sc_law_cell.nd rfl (Or.inl rfl) (pe_op op_mod (pe_callTy (T := "int") (r := rInt1) call_int1 (by rfl) T.b_int (by decide +kernel) (pa_cons (pe_op op_add (pe_op op_mul (pv 2) pe_int) (pe_callB (id := "abs") call_abs (by rfl) T.b_abs (by decide +kernel) (pa_cons (pe_callTy (T := "int") (r := rInt1) call_int1 (by rfl) T.b_int (by decide +kernel) (pa_cons (pv 3) pa_nil)) pa_nil))) pa_nil)) pe_int))))
      (pss_one (ps_ret (pv 2)))))), ?_⟩
    try simp (maxSteps := 1000000) only [tSeq, tIfS, tTest, tOp, tUn, tCB, tCons, tNil, tVar, tC, rI0, rI, rU, rEq, rNe, tRet, tRetN, tAsg, gName, gSub, tBM, tBM0, tNext, tB, tNot, tAnd, tOr, tIf, tCall, tDrop, tBreak, tCont, L2.start, tDGet, sDPut, tTup, tLst, tDNewK, tRevL, rCat, rAppend, rPop, rSetL, tAndV, tOrV, tNotV, tSl, tPart, tNoPart, tM1, gTup, gCons, gNil, cxK, cxnK, List.map_cons, List.map_nil, List.length_cons, List.length_nil, List.replicate, List.cons_append, List.nil_append, List.append_nil, List.set_cons_zero, List.set_cons_succ, List.getElem?_cons_zero, List.getElem?_cons_succ, Option.some.injEq, V.ref.injEq, V.int.injEq, V.str.injEq, V.bl.injEq, V.ty.injEq, exists_eq_left', exists_eq_left, exists_and_left, List.cons.injEq, and_true, true_and, sc_ii, sc_ss, sc_bb, sc_ni, sc_in, sc_is, sc_si, sc_nn, decide_true, decide_false, reduceCtorEq, Bool.false_eq_true, if_true, if_false, ite_true, ite_false, exists_const, eq_self, false_and, and_false, or_false, false_or, exists_false, Evl.rLenS, rSum, wipe, tYes, exists_eq, exists_eq', rIxL, rIxT, rIxS, exists_and_right, gt_iff_lt, not_true_eq_false, not_false_eq_true, Bool.not_true, Bool.not_false, decide_eq_true_eq, Nat.reduceSub, Nat.reduceAdd, List.append_assoc, tChain, tDIn, tDNotIn, sDDel, tAug, ipI, rInt1_int, rInt1_bl]
    have ab : ∀ x : Int, 0 ≤ (if x < 0 then -x else x) := fun x => by split <;> omega
    refine ⟨_, .inl hS, ?_⟩
    rw [List.length_map]
    refine ite2 (fun h1 => ?_) (fun h1 => ?_)
    · obtain ⟨v, hv, ev⟩ := atI_ex (xs := ns.map V.int) (i := (k : Nat)) (by omega) (by rw [List.length_map]; exact h1)
      obtain ⟨x, _, rfl⟩ := List.mem_map.mp hv
      refine ⟨_, hS, _, ev, ?_⟩
      try simp (maxSteps := 1000000) only [tSeq, tIfS, tTest, tOp, tUn, tCB, tCons, tNil, tVar, tC, rI0, rI, rU, rEq, rNe, tRet, tRetN, tAsg, gName, gSub, tBM, tBM0, tNext, tB, tNot, tAnd, tOr, tIf, tCall, tDrop, tBreak, tCont, L2.start, tDGet, sDPut, tTup, tLst, tDNewK, tRevL, rCat, rAppend, rPop, rSetL, tAndV, tOrV, tNotV, tSl, tPart, tNoPart, tM1, gTup, gCons, gNil, cxK, cxnK, List.map_cons, List.map_nil, List.length_cons, List.length_nil, List.replicate, List.cons_append, List.nil_append, List.append_nil, List.set_cons_zero, List.set_cons_succ, List.getElem?_cons_zero, List.getElem?_cons_succ, Option.some.injEq, V.ref.injEq, V.int.injEq, V.str.injEq, V.bl.injEq, V.ty.injEq, exists_eq_left', exists_eq_left, exists_and_left, List.cons.injEq, and_true, true_and, sc_ii, sc_ss, sc_bb, sc_ni, sc_in, sc_is, sc_si, sc_nn, decide_true, decide_false, reduceCtorEq, Bool.false_eq_true, if_true, if_false, ite_true, ite_false, exists_const, eq_self, false_and, and_false, or_false, false_or, exists_false, Evl.rLenS, rSum, wipe, tYes, exists_eq, exists_eq', rIxL, rIxT, rIxS, exists_and_right, gt_iff_lt, not_true_eq_false, not_false_eq_true, Bool.not_true, Bool.not_false, decide_eq_true_eq, Nat.reduceSub, Nat.reduceAdd, List.append_assoc, tChain, tDIn, tDNotIn, sDDel, tAug, ipI, rInt1_int, rInt1_bl]
      exact q _ _ (ab x) (Kp.refl _ _)
    · refine ⟨.inl ⟨by decide, by decide⟩, _, .inl hS, ?_⟩
      refine forL_src ?_
      try simp (maxSteps := 1000000) only [tSeq, tIfS, tTest, tOp, tUn, tCB, tCons, tNil, tVar, tC, rI0, rI, rU, rEq, rNe, tRet, tRetN, tAsg, gName, gSub, tBM, tBM0, tNext, tB, tNot, tAnd, tOr, tIf, tCall, tDrop, tBreak, tCont, L2.start, tDGet, sDPut, tTup, tLst, tDNewK, tRevL, rCat, rAppend, rPop, rSetL, tAndV, tOrV, tNotV, tSl, tPart, tNoPart, tM1, gTup, gCons, gNil, cxK, cxnK, List.map_cons, List.map_nil, List.length_cons, List.length_nil, List.replicate, List.cons_append, List.nil_append, List.append_nil, List.set_cons_zero, List.set_cons_succ, List.getElem?_cons_zero, List.getElem?_cons_succ, Option.some.injEq, V.ref.injEq, V.int.injEq, V.str.injEq, V.bl.injEq, V.ty.injEq, exists_eq_left', exists_eq_left, exists_and_left, List.cons.injEq, and_true, true_and, sc_ii, sc_ss, sc_bb, sc_ni, sc_in, sc_is, sc_si, sc_nn, decide_true, decide_false, reduceCtorEq, Bool.false_eq_true, if_true, if_false, ite_true, ite_false, exists_const, eq_self, false_and, and_false, or_false, false_or, exists_false, Evl.rLenS, rSum, wipe, tYes, exists_eq, exists_eq', rIxL, rIxT, rIxS, exists_and_right, gt_iff_lt, not_true_eq_false, not_false_eq_true, Bool.not_true, Bool.not_false, decide_eq_true_eq, Nat.reduceSub, Nat.reduceAdd, List.append_assoc, tChain, tDIn, tDNotIn, sDDel, tAug, ipI, rInt1_int, rInt1_bl]
      refine forLC (fun i σ H' => ∃ (z : Int) (c : Option V), σ = [some (.ref a), some (.int (k : Nat)), some (.int z), c] ∧ 0 ≤ z ∧ Kp [] H H') hS ⟨_, none, rfl, by omega, Kp.refl _ _⟩ (fun j σ H' _ h => by obtain ⟨_, _, _, _, k⟩ := h; exact k.ls not0 hS) (fun i x σ H' hx h => ?_) fun σ H' h => ?_
      · obtain ⟨z, c, rfl, z0, kp⟩ := h
        obtain ⟨y, ey, rfl⟩ := map_get hx
        try simp (maxSteps := 1000000) only [tSeq, tIfS, tTest, tOp, tUn, tCB, tCons, tNil, tVar, tC, rI0, rI, rU, rEq, rNe, tRet, tRetN, tAsg, gName, gSub, tBM, tBM0, tNext, tB, tNot, tAnd, tOr, tIf, tCall, tDrop, tBreak, tCont, L2.start, tDGet, sDPut, tTup, tLst, tDNewK, tRevL, rCat, rAppend, rPop, rSetL, tAndV, tOrV, tNotV, tSl, tPart, tNoPart, tM1, gTup, gCons, gNil, cxK, cxnK, List.map_cons, List.map_nil, List.length_cons, List.length_nil, List.replicate, List.cons_append, List.nil_append, List.append_nil, List.set_cons_zero, List.set_cons_succ, List.getElem?_cons_zero, List.getElem?_cons_succ, Option.some.injEq, V.ref.injEq, V.int.injEq, V.str.injEq, V.bl.injEq, V.ty.injEq, exists_eq_left', exists_eq_left, exists_and_left, List.cons.injEq, and_true, true_and, sc_ii, sc_ss, sc_bb, sc_ni, sc_in, sc_is, sc_si, sc_nn, decide_true, decide_false, reduceCtorEq, Bool.false_eq_true, if_true, if_false, ite_true, ite_false, exists_const, eq_self, false_and, and_false, or_false, false_or, exists_false, Evl.rLenS, rSum, wipe, tYes, exists_eq, exists_eq', rIxL, rIxT, rIxS, exists_and_right, gt_iff_lt, not_true_eq_false, not_false_eq_true, Bool.not_true, Bool.not_false, decide_eq_true_eq, Nat.reduceSub, Nat.reduceAdd, List.append_assoc, tChain, tDIn, tDNotIn, sDDel, tAug, ipI, rInt1_int, rInt1_bl]
        exact ⟨.inr ⟨by decide, by decide⟩, by decide, Int.emod_nonneg _ (by decide), kp⟩
      · obtain ⟨z, c, rfl, z0, kp⟩ := h
        try simp (maxSteps := 1000000) only [tSeq, tIfS, tTest, tOp, tUn, tCB, tCons, tNil, tVar, tC, rI0, rI, rU, rEq, rNe, tRet, tRetN, tAsg, gName, gSub, tBM, tBM0, tNext, tB, tNot, tAnd, tOr, tIf, tCall, tDrop, tBreak, tCont, L2.start, tDGet, sDPut, tTup, tLst, tDNewK, tRevL, rCat, rAppend, rPop, rSetL, tAndV, tOrV, tNotV, tSl, tPart, tNoPart, tM1, gTup, gCons, gNil, cxK, cxnK, List.map_cons, List.map_nil, List.length_cons, List.length_nil, List.replicate, List.cons_append, List.nil_append, List.append_nil, List.set_cons_zero, List.set_cons_succ, List.getElem?_cons_zero, List.getElem?_cons_succ, Option.some.injEq, V.ref.injEq, V.int.injEq, V.str.injEq, V.bl.injEq, V.ty.injEq, exists_eq_left', exists_eq_left, exists_and_left, List.cons.injEq, and_true, true_and, sc_ii, sc_ss, sc_bb, sc_ni, sc_in, sc_is, sc_si, sc_nn, decide_true, decide_false, reduceCtorEq, Bool.false_eq_true, if_true, if_false, ite_true, ite_false, exists_const, eq_self, false_and, and_false, or_false, false_or, exists_false, Evl.rLenS, rSum, wipe, tYes, exists_eq, exists_eq', rIxL, rIxT, rIxS, exists_and_right, gt_iff_lt, not_true_eq_false, not_false_eq_true, Bool.not_true, Bool.not_false, decide_eq_true_eq, Nat.reduceSub, Nat.reduceAdd, List.append_assoc, tChain, tDIn, tDNotIn, sDDel, tAug, ipI, rInt1_int, rInt1_bl]
        exact q z H' z0 kp
def spDraws (K : PySem.W.Frag) : Sp := fun vs H Q _ => ∃ (c : Int) (a : Addr) (ss : List Int), vs = [.int c, .ref a] ∧ 0 ≤ c ∧ SqL K H a (ss.map V.int) ∧ ss.length ≤ 100 ∧ (∀ x ∈ ss, 0 < x ∧ x < 1000000) ∧ ∀ (ds : List Int) (l : Addr) H', H l = none → H' l = some (.lst (ds.map V.int)) → ds.length = ss.length → (∀ (i : Nat) (d s : Int), ds[i]? = some d → ss[i]? = some s → 0 ≤ d ∧ d < s) → Kp [] H H' → Q (.ref l) H'
theorem ok_law_draws {f : Addr} {fd : FuncData} (D : Df K mg "_law_draws" s_law_draws ["_law_cell_here", "_law_spans"] f fd) (T : BtG mg) : FnOk P w K mg base CX0 1 f fd ["_law_cell_here", "_law_spans"] (spDraws K) := by
  refine D.F.ok sc_law_draws (fun vs H Q E h => ?_) (fun cdv A outer s H vs Q E hr h => ?_)
  · obtain ⟨_, _, _, rfl, _⟩ := h
    rfl
  · obtain ⟨c, a, ss, rfl, c0, hS, sl, sp, q⟩ := h
    obtain ⟨t, ht, hq⟩ : ∃ t, PSs (cxOf CX0 P w K mg base ["_law_cell_here", "_law_spans", "_law_left", "_law_out", "_law_k", "_law_one", "_law_two"] "_law_draws" (defScope s_law_draws) f cdv A outer s H E).nox ((defBody s_law_draws).drop 2) t ∧ ∀ left : Int, 0 ≤ left → t { nx := fun _ H' => Q .non H', rt := Q } [some (.int c), some (.ref a), some (.int left), none, none, none, none] H := by
      refine ⟨_, (pss_cons (ps_set (i := 3) sc_law_draws.nd rfl (Or.inl rfl) (pe_lst pa_nil))
      (pss_cons (ps_for PassesOwn.never rfl (pi_range1 rfl T.b_range (pa_cons (pe_callB (id := "len") (r := Evl.rLenS K) call_len_seq (by rfl) T.b_len PySem.boot_len (pa_cons (pv 1) pa_nil)) pa_nil)) (pg_name (i := 4) sc_law_draws.nd rfl (Or.inl rfl)) (pss_one (ps_if (pt_cmpR op_gt (pv 2) pe_int (nomark _)) (pss_cons (ps_expr (pe_bm PySem.F.plainAttrs_list PySem.F.slot_list_append PySem.F.type_list_append mt_append (pv 3) (pa_cons (pe_op op_mod (pe_callTy (T := "int") (r := rInt1) call_int1 (by rfl) T.b_int (by decide +kernel) (pa_cons (pv 2) pa_nil)) (pe_ix (r := rIxL K) ix_list (pv 1) (pv 4) (fun _ _ => rfl))) pa_nil)))
      (pss_one (ps_set (i := 2) sc_law_draws.nd rfl (Or.inl rfl) (pe_op op_fdiv (pe_callTy (T := "int") (r := rInt1) call_int1 (by rfl) T.b_int (by decide +kernel) (pa_cons (pv 2) pa_nil)) (pe_ix (r := rIxL K) ix_list (pv 1) (pv 4) (fun _ _ => rfl)))))) (pss_cons (ps_set (i := 5) sc_law_draws.nd rfl (Or.inl rfl) (pe_op op_mod (pe_callTy (T := "int") (r := rInt1) call_int1 (by rfl) T.b_int (by decide +kernel) (pa_cons (pe_op op_add (pe_op op_mul (pv 0) pe_int) (pe_op op_mul (pe_op op_add (pv 4) pe_int) pe_int)) pa_nil)) pe_int))
      (pss_cons (ps_set (i := 6) sc_law_draws.nd rfl (Or.inl rfl) (pe_op op_mod (pe_callTy (T := "int") (r := rInt1) call_int1 (by rfl) T.b_int (by decide +kernel) (pa_cons (pe_op op_add (pe_op op_add (pe_op op_mul (pv 5) (pv 5)) (pe_op op_mul pe_int (pv 4))) (pv 0)) pa_nil)) pe_int))
      (pss_one (ps_expr (pe_bm PySem.F.plainAttrs_list PySem.F.slot_list_append PySem.F.type_list_append mt_append (pv 3) (pa_cons (pe_op op_mod (pe_op op_mod (pe_callTy (T := "int") (r := rInt1) call_int1 (by rfl) T.b_int (by decide +kernel) (pa_cons (pe_op op_add (pe_op op_mul (pv 6) (pv 6)) (pv 5)) pa_nil)) pe_int) (pe_ix (r := rIxL K) ix_list (pv 1) (pv 4) (fun _ _ => rfl))) pa_nil)))))))))
      (pss_one (ps_ret (pv 3))))), ?_⟩
      intro left l0
      try simp (maxSteps := 1000000) only [tSeq, tIfS, tTest, tOp, tUn, tCB, tCons, tNil, tVar, tC, rI0, rI, rU, rEq, rNe, tRet, tRetN, tAsg, gName, gSub, tBM, tBM0, tNext, tB, tNot, tAnd, tOr, tIf, tCall, tDrop, tBreak, tCont, L2.start, tDGet, sDPut, tTup, tLst, tDNewK, tRevL, rCat, rAppend, rPop, rSetL, tAndV, tOrV, tNotV, tSl, tPart, tNoPart, tM1, gTup, gCons, gNil, cxK, cxnK, List.map_cons, List.map_nil, List.length_cons, List.length_nil, List.replicate, List.cons_append, List.nil_append, List.append_nil, List.set_cons_zero, List.set_cons_succ, List.getElem?_cons_zero, List.getElem?_cons_succ, Option.some.injEq, V.ref.injEq, V.int.injEq, V.str.injEq, V.bl.injEq, V.ty.injEq, exists_eq_left', exists_eq_left, exists_and_left, List.cons.injEq, and_true, true_and, sc_ii, sc_ss, sc_bb, sc_ni, sc_in, sc_is, sc_si, sc_nn, decide_true, decide_false, reduceCtorEq, Bool.false_eq_true, if_true, if_false, ite_true, ite_false, exists_const, eq_self, false_and, and_false, or_false, false_or, exists_false, Evl.rLenS, rSum, wipe, tYes, exists_eq, exists_eq', rIxL, rIxT, rIxS, exists_and_right, gt_iff_lt, not_true_eq_false, not_false_eq_true, Bool.not_true, Bool.not_false, decide_eq_true_eq, Nat.reduceSub, Nat.reduceAdd, List.append_assoc, tChain, tDIn, tDNotIn, sDDel, tAug, ipI, rInt1_int, rInt1_bl]
      refine ⟨Nat.zero_le _, fun p np => ?_⟩
      refine forN ss.length (by omega) (fun j σ H' => ∃ (lf : Int) (ds : List Int) (c4 c5 c6 : Option V), σ = [some (.int c), some (.ref a), some (.int lf), some (.ref p), c4, c5, c6] ∧ 0 ≤ lf ∧ H' p = some (.lst (ds.map V.int)) ∧ ds.length = j ∧ (∀ (i : Nat) (d s : Int), ds[i]? = some d → ss[i]? = some s → 0 ≤ d ∧ d < s) ∧ Kp [] H H') (fun R r => ?_) ⟨left, [], none, none, none, rfl, l0, upd_same, rfl, fun i d s h => (nomatch h), Kp.new np⟩ (fun j σ H' hj h => ?_) fun σ H' h => ?_
      · try simp (maxSteps := 1000000) only [tSeq, tIfS, tTest, tOp, tUn, tCB, tCons, tNil, tVar, tC, rI0, rI, rU, rEq, rNe, tRet, tRetN, tAsg, gName, gSub, tBM, tBM0, tNext, tB, tNot, tAnd, tOr, tIf, tCall, tDrop, tBreak, tCont, L2.start, tDGet, sDPut, tTup, tLst, tDNewK, tRevL, rCat, rAppend, rPop, rSetL, tAndV, tOrV, tNotV, tSl, tPart, tNoPart, tM1, gTup, gCons, gNil, cxK, cxnK, List.map_cons, List.map_nil, List.length_cons, List.length_nil, List.replicate, List.cons_append, List.nil_append, List.append_nil, List.set_cons_zero, List.set_cons_succ, List.getElem?_cons_zero, List.getElem?_cons_succ, Option.some.injEq, V.ref.injEq, V.int.injEq, V.str.injEq, V.bl.injEq, V.ty.injEq, exists_eq_left', exists_eq_left, exists_and_left, List.cons.injEq, and_true, true_and, sc_ii, sc_ss, sc_bb, sc_ni, sc_in, sc_is, sc_si, sc_nn, decide_true, decide_false, reduceCtorEq, Bool.false_eq_true, if_true, if_false, ite_true, ite_false, exists_const, eq_self, false_and, and_false, or_false, false_or, exists_false, Evl.rLenS, rSum, wipe, tYes, exists_eq, exists_eq', rIxL, rIxT, rIxS, exists_and_right, gt_iff_lt, not_true_eq_false, not_false_eq_true, Bool.not_true, Bool.not_false, decide_eq_true_eq, Nat.reduceSub, Nat.reduceAdd, List.append_assoc, tChain, tDIn, tDNotIn, sDDel, tAug, ipI, rInt1_int, rInt1_bl]
        refine ⟨_, .inl ((Kp.new np : Kp [] H _).ls not0 hS), ?_⟩
        rw [List.length_map]
        exact r
      · obtain ⟨lf, ds, c4, c5, c6, rfl, lf0, hp, dl, hd, kp⟩ := h
        have hS' := kp.ls not0 hS
        have es : ss[j]? = some ss[j] := List.getElem?_eq_getElem hj
        have sp0 := sp ss[j] (List.getElem_mem hj)
        generalize ss[j] = sj at es sp0
        have ej : atI (ss.map V.int) ((j : Nat) : Int) = some (.int sj) := atI_of (by omega) (by rw [List.getElem?_map]; simp [es])
        have put : ∀ z : Int, 0 ≤ z → z < sj → H' p = some (.lst (ds.map V.int)) ∧ (ds.map V.int).length < sizeLine ∧ (upd H' p (.lst (ds.map V.int ++ [V.int z]))) p = some (.lst ((ds ++ [z]).map V.int)) ∧ (ds ++ [z]).length = j + 1 ∧ (∀ (i : Nat) (d s : Int), (ds ++ [z])[i]? = some d → ss[i]? = some s → 0 ≤ d ∧ d < s) ∧ Kp [] H (upd H' p (.lst (ds.map V.int ++ [V.int z]))) := fun z z0 z1 => by
          refine ⟨hp, by rw [List.length_map]; exact smallL (by omega), by rw [upd_same, List.map_append]; rfl, by simp [dl], fun i d s e1 e2 => ?_, kp.wr np⟩
          by_cases hi : i < ds.length
          · rw [List.getElem?_append_left hi] at e1
            exact hd i d s e1 e2
          · rw [List.getElem?_append_right (by omega)] at e1
            have : i - ds.length = 0 := by
              have := (List.getElem?_eq_some_iff.mp e1).1
              simp at this; omega
            rw [this] at e1
            cases e1
            have : i = j := by omega
            subst this
            rw [es] at e2; cases e2
            exact ⟨z0, z1⟩
        have lt : tyV K "list" (V.ref p) H' := .inl ⟨rfl, _, sq_l hp⟩
        have md : ∀ z : Int, 0 ≤ z % sj ∧ z % sj < sj := fun z => ⟨Int.emod_nonneg _ (by omega), Int.emod_lt_of_pos _ sp0.1⟩
        try simp (maxSteps := 1000000) only [tSeq, tIfS, tTest, tOp, tUn, tCB, tCons, tNil, tVar, tC, rI0, rI, rU, rEq, rNe, tRet, tRetN, tAsg, gName, gSub, tBM, tBM0, tNext, tB, tNot, tAnd, tOr, tIf, tCall, tDrop, tBreak, tCont, L2.start, tDGet, sDPut, tTup, tLst, tDNewK, tRevL, rCat, rAppend, rPop, rSetL, tAndV, tOrV, tNotV, tSl, tPart, tNoPart, tM1, gTup, gCons, gNil, cxK, cxnK, List.map_cons, List.map_nil, List.length_cons, List.length_nil, List.replicate, List.cons_append, List.nil_append, List.append_nil, List.set_cons_zero, List.set_cons_succ, List.getElem?_cons_zero, List.getElem?_cons_succ, Option.some.injEq, V.ref.injEq, V.int.injEq, V.str.injEq, V.bl.injEq, V.ty.injEq, exists_eq_left', exists_eq_left, exists_and_left, List.cons.injEq, and_true, true_and, sc_ii, sc_ss, sc_bb, sc_ni, sc_in, sc_is, sc_si, sc_nn, decide_true, decide_false, reduceCtorEq, Bool.false_eq_true, if_true, if_false, ite_true, ite_false, exists_const, eq_self, false_and, and_false, or_false, false_or, exists_false, Evl.rLenS, rSum, wipe, tYes, exists_eq, exists_eq', rIxL, rIxT, rIxS, exists_and_right, gt_iff_lt, not_true_eq_false, not_false_eq_true, Bool.not_true, Bool.not_false, decide_eq_true_eq, Nat.reduceSub, Nat.reduceAdd, List.append_assoc, tChain, tDIn, tDNotIn, sDDel, tAug, ipI, rInt1_int, rInt1_bl]
        refine ite2 (fun h1 => ?_) (fun h1 => ?_)
        · obtain ⟨w1, w2, w3⟩ := put (lf % sj) (md _).1 (md _).2
          exact ⟨lt, _, hS', _, ej, sj, rfl, sp0.1, _, w1, w2, _, (kp.wr np).ls not0 hS, _, ej, sj, rfl, ⟨sp0.1, by omega⟩, Int.ediv_nonneg lf0 (by omega), ds ++ [lf % sj], w3⟩
        · have m1 := Int.emod_nonneg (c * 48271 + (↑j + 1) * 69621) (show (2147483647 : Int) ≠ 0 by decide)
          have m2 := Int.emod_lt_of_pos (c * 48271 + (↑j + 1) * 69621) (show (0 : Int) < 2147483647 by decide)
          generalize (c * 48271 + (↑j + 1) * 69621) % 2147483647 = r1 at m1 m2 ⊢
          have n1 := Int.emod_nonneg (r1 * r1 + 7919 * ↑j + c) (show (1000003 : Int) ≠ 0 by decide)
          have n2 := Int.emod_lt_of_pos (r1 * r1 + 7919 * ↑j + c) (show (0 : Int) < 1000003 by decide)
          generalize (r1 * r1 + 7919 * ↑j + c) % 1000003 = r2 at n1 n2 ⊢
          obtain ⟨w1, w2, w3⟩ := put ((r2 * r2 + r1) % 999983 % sj) (md _).1 (md _).2
          exact ⟨.inr ⟨by decide, by decide⟩, .inr ⟨by decide, by decide⟩, by decide, .inl ⟨by omega, by omega⟩, .inl ⟨by decide, by decide⟩, by decide, lt, .inl ⟨by omega, by omega⟩, by decide, _, hS', _, ej, sj, rfl, sp0.1, _, w1, w2, lf0, ds ++ [(r2 * r2 + r1) % 999983 % sj], w3⟩
      · obtain ⟨lf, ds, c4, c5, c6, rfl, lf0, hp, dl, hd, kp⟩ := h
        try simp (maxSteps := 1000000) only [tSeq, tIfS, tTest, tOp, tUn, tCB, tCons, tNil, tVar, tC, rI0, rI, rU, rEq, rNe, tRet, tRetN, tAsg, gName, gSub, tBM, tBM0, tNext, tB, tNot, tAnd, tOr, tIf, tCall, tDrop, tBreak, tCont, L2.start, tDGet, sDPut, tTup, tLst, tDNewK, tRevL, rCat, rAppend, rPop, rSetL, tAndV, tOrV, tNotV, tSl, tPart, tNoPart, tM1, gTup, gCons, gNil, cxK, cxnK, List.map_cons, List.map_nil, List.length_cons, List.length_nil, List.replicate, List.cons_append, List.nil_append, List.append_nil, List.set_cons_zero, List.set_cons_succ, List.getElem?_cons_zero, List.getElem?_cons_succ, Option.some.injEq, V.ref.injEq, V.int.injEq, V.str.injEq, V.bl.injEq, V.ty.injEq, exists_eq_left', exists_eq_left, exists_and_left, List.cons.injEq, and_true, true_and, sc_ii, sc_ss, sc_bb, sc_ni, sc_in, sc_is, sc_si, sc_nn, decide_true, decide_false, reduceCtorEq, Bool.false_eq_true, if_true, if_false, ite_true, ite_false, exists_const, eq_self, false_and, and_false, or_false, false_or, exists_false, Evl.rLenS, rSum, wipe, tYes, exists_eq, exists_eq', rIxL, rIxT, rIxS, exists_and_right, gt_iff_lt, not_true_eq_false, not_false_eq_true, Bool.not_true, Bool.not_false, decide_eq_true_eq, Nat.reduceSub, Nat.reduceAdd, List.append_assoc, tChain, tDIn, tDNotIn, sDDel, tAug, ipI, rInt1_int, rInt1_bl]
        exact q ds p H' np hp dl hd kp
    refine ⟨_, (pss_cons (ps_set (i := 2) sc_law_draws.nd rfl (Or.inl rfl) pe_int)
      (pss_cons (ps_if (pt_cmpR op_ge (pv 0) (pe_op op_pow pe_int pe_int) (nomark _)) (pss_one (ps_set (i := 2) sc_law_draws.nd rfl (Or.inl rfl) (pv 0))) pss_nil)
      ht)), ?_⟩
    try simp (maxSteps := 1000000) only [tSeq, tIfS, tTest, tOp, tUn, tCB, tCons, tNil, tVar, tC, rI0, rI, rU, rEq, rNe, tRet, tRetN, tAsg, gName, gSub, tBM, tBM0, tNext, tB, tNot, tAnd, tOr, tIf, tCall, tDrop, tBreak, tCont, L2.start, tDGet, sDPut, tTup, tLst, tDNewK, tRevL, rCat, rAppend, rPop, rSetL, tAndV, tOrV, tNotV, tSl, tPart, tNoPart, tM1, gTup, gCons, gNil, cxK, cxnK, List.map_cons, List.map_nil, List.length_cons, List.length_nil, List.replicate, List.cons_append, List.nil_append, List.append_nil, List.set_cons_zero, List.set_cons_succ, List.getElem?_cons_zero, List.getElem?_cons_succ, Option.some.injEq, V.ref.injEq, V.int.injEq, V.str.injEq, V.bl.injEq, V.ty.injEq, exists_eq_left', exists_eq_left, exists_and_left, List.cons.injEq, and_true, true_and, sc_ii, sc_ss, sc_bb, sc_ni, sc_in, sc_is, sc_si, sc_nn, decide_true, decide_false, reduceCtorEq, Bool.false_eq_true, if_true, if_false, ite_true, ite_false, exists_const, eq_self, false_and, and_false, or_false, false_or, exists_false, Evl.rLenS, rSum, wipe, tYes, exists_eq, exists_eq', rIxL, rIxT, rIxS, exists_and_right, gt_iff_lt, not_true_eq_false, not_false_eq_true, Bool.not_true, Bool.not_false, decide_eq_true_eq, Nat.reduceSub, Nat.reduceAdd, List.append_assoc, tChain, tDIn, tDNotIn, sDDel, tAug, ipI, rInt1_int, rInt1_bl]
    refine ⟨⟨by decide, by decide, by decide⟩, ite2 (fun _ => hq c c0) (fun _ => hq 0 (Int.le_refl 0))⟩
end
end My

set_option Elab.async false
set_option linter.all false
set_option maxRecDepth 100000
set_option maxHeartbeats 4000000
namespace My
open PySem L2 NdefX
abbrev s_law_menu : Stmt := top 20
theorem sc_law_menu : FnScope ["_law_cell_here", "_law_many", "_law_letters", "_law_words", "_law_spans", "_law_k", "_law_draws_here", "_law_menu_here", "_law_what", "_law_name", "_law_j", "_law_deed"] ["_law_cell_here", "_law_many"] (defScope s_law_menu) := ⟨rfl, rfl, rfl, by decide +kernel, rfl, by decide +kernel, by decide +kernel⟩
theorem shapedL {ds : List PyData} (h : ∀ d ∈ ds, SeqAt.shaped d = true ∧ d.depth ≤ 60) : SeqAt.shaped (.list ds) = true ∧ SeqAt.shaped (.tuple ds) = true := by
  have a1 : PyData.canLayAll0 ds = true := by
    induction ds with
    | nil => rfl
    | cons d r ih =>
      have h1 := h d List.mem_cons_self
      show (PyData.canLay0 d && PyData.canLayAll0 r) = true
      rw [SeqAt.canLay_of_shaped h1.1, ih fun x hx => h x (List.mem_cons_of_mem _ hx)]; rfl
  have a2 : PyData.depthAll ds ≤ 60 := by
    clear a1
    induction ds with
    | nil => exact Nat.zero_le _
    | cons d r ih =>
      have h1 := h d List.mem_cons_self
      have h2 := ih fun x hx => h x (List.mem_cons_of_mem _ hx)
      show max d.depth (PyData.depthAll r) ≤ 60
      omega
  have b1 : decide (PyData.depthAll ds + 1 ≤ 64) = true := decide_eq_true (by omega)
  constructor
  · show (PyData.canLayAll0 ds && decide (PyData.depthAll ds + 1 ≤ 64)) = true
    rw [a1, b1]; rfl
  · show (PyData.canLayAll0 ds && decide (PyData.depthAll ds + 1 ≤ 64)) = true
    rw [a1, b1]; rfl
/-- data that may stand in a row -/
theorem shDd {d : Dd} (h : GoodDd d) : SeqAt.shaped (ddD d) = true ∧ (ddD d).depth ≤ 60 := by
  have c := (MvOk.of (m := (d, 0)) (n := 1) h ⟨Int.le_refl 0, Int.zero_lt_one⟩).2.2.2
  have e : (ddD d).depth ≤ 1 := by
    obtain ⟨a, b, k⟩ := d
    cases k <;> exact Nat.le_refl _
  refine ⟨?_, by omega⟩
  unfold SeqAt.shaped
  rw [show PyData.canLay0 (ddD d) = true from c, decide_eq_true (by omega)]; rfl
theorem shDds {ds : List Dd} (h : ∀ d ∈ ds, GoodDd d) : SeqAt.shaped (.list (ds.map ddD)) = true := (shapedL fun x hx => by
  obtain ⟨d, hd, rfl⟩ := List.mem_map.mp hx
  exact shDd (h d hd)).1
def hasD (ds : List Dd) (d : Dd) : Bool := ds.any fun x => decide (x = d)
theorem hasD_iff {ds : List Dd} {d : Dd} : hasD ds d = true ↔ d ∈ ds := by
  unfold hasD
  rw [List.any_eq_true]
  exact ⟨fun ⟨x, hx, e⟩ => of_decide_eq_true e ▸ hx, fun h => ⟨d, h, decide_eq_true rfl⟩⟩
theorem anyDd {ds : List Dd} {d : Dd} : ((ds.map ddD).any fun z => PyData.eqv z (ddD d)) = hasD ds d := by
  rw [List.any_map]
  unfold hasD
  congr 1
  funext x
  exact eqvDd x d
def TDv (H : Hp) (v : V) (d : Dd) : Prop := ∃ t, v = .ref t ∧ TD H t d
theorem TDv.tp {H H' : Hp} {v : V} {d : Dd} (h : TDv H v d) (t : Tp H H') : TDv H' v d := by
  obtain ⟨a, e, h⟩ := h
  exact ⟨a, e, t _ _ h⟩
theorem TDv.dp {K : PySem.W.Frag} {H : Hp} {v : V} {d : Dd} (h : TDv H v d) : Dp K H v (ddD d) := by
  obtain ⟨a, rfl, h⟩ := h
  exact .tup (sq_t h) (.cons (.int _) (.cons (.str _) (.cons (by cases d.2.2 with | inl i => exact .int i | inr z => exact .str z) .nil)))
theorem rwDp {K : PySem.W.Frag} {H : Hp} : ∀ {ds : List Dd} {us : List V}, Rw (TDv H) us ds → DpAll K H us (ds.map ddD)
  | [], us, h => by rw [h.isNil]; exact .nil
  | d :: ds, us, h => by
    obtain ⟨u, us', rfl, h1, h2⟩ := h.ex
    exact .cons h1.dp (rwDp h2)
structure MenuOk (ds : List Dd) : Prop where
  nd : ds.Nodup
  good : ∀ d ∈ ds, GoodDd d
  lo : 3 ≤ ds.length
  hi : ds.length ≤ 8
  call : ∃ d, ds[0]? = some d ∧ d.2.1 = ("call" : Str)
  ret : ∃ d, ds[2]? = some d ∧ d.2.1 = ("return" : Str)
def spansM : Nat → List Int
  | 0 => []
  | k + 1 => spansM k ++ [3, 10, 5408]
theorem spansM_len : ∀ k, (spansM k).length = 3 * k
  | 0 => rfl
  | k + 1 => by unfold spansM; rw [List.length_append, spansM_len k]; show 3 * k + 3 = _; omega
theorem spansM_at : ∀ {k j : Nat}, j < k → (spansM k)[3 * j]? = some 3 ∧ (spansM k)[3 * j + 1]? = some 10 ∧ (spansM k)[3 * j + 2]? = some 5408
  | k + 1, j, h => by
    unfold spansM
    by_cases e : j = k
    · subst e
      have l := spansM_len j
      refine ⟨?_, ?_, ?_⟩
      · rw [List.getElem?_append_right (by omega), show 3 * j - (spansM j).length = 0 by omega]; rfl
      · rw [List.getElem?_append_right (by omega), show 3 * j + 1 - (spansM j).length = 1 by omega]; rfl
      · rw [List.getElem?_append_right (by omega), show 3 * j + 2 - (spansM j).length = 2 by omega]; rfl
    · have l := spansM_len k
      obtain ⟨a, b, c⟩ := spansM_at (k := k) (j := j) (by omega)
      exact ⟨by rw [List.getElem?_append_left (by omega)]; exact a, by rw [List.getElem?_append_left (by omega)]; exact b, by rw [List.getElem?_append_left (by omega)]; exact c⟩
theorem spansM_pos : ∀ {k : Nat}, ∀ x ∈ spansM k, 0 < x ∧ x < 1000000
  | 0, x, h => nomatch h
  | k + 1, x, h => by
    unfold spansM at h
    rcases List.mem_append.mp h with h | h
    · exact spansM_pos x h
    · simp at h
      rcases h with rfl | rfl | rfl <;> decide
def tx (cs : List Nat) : Str := ⟨cs.toArray⟩
theorem tx_len (cs : List Nat) : (tx cs).length = cs.length := by
  show cs.toArray.size = _
  simp
theorem tx_list (cs : List Nat) : (tx cs).cps.toList = cs := by
  show cs.toArray.toList = cs
  simp
theorem join_ones : ∀ cs : List Nat, Txt.join "" (cs.map fun c => tx [c]) = tx cs := by
  intro cs
  have e := SX.join_S [] (cs.map fun c => [c])
  have e2 : (cs.map fun c => [c]).map SX.S = cs.map fun c => tx [c] := by rw [List.map_map]; rfl
  rw [e2] at e
  have e3 : TL.joinL [] (cs.map fun c => [c]) = cs := by
    clear e e2
    induction cs with
    | nil => rfl
    | cons c r ih =>
      cases r with
      | nil => rfl
      | cons d r =>
        show [c] ++ ([] ++ TL.joinL [] ((d :: r).map fun c => [c])) = c :: d :: r
        rw [ih]; rfl
  rw [e3] at e
  exact e
theorem sum_ones (cs : List Nat) : ((cs.map fun c => tx [c]).map fun x => x.length).sum = cs.length := by
  induction cs with
  | nil => rfl
  | cons c r ih =>
    rw [List.map_cons, List.map_cons, List.sum_cons, ih, List.length_cons]
    show 1 + r.length = r.length + 1
    omega
theorem rwTx {us : List V} {cs : List Nat} (h : Rw (fun v c => v = V.str (tx [c])) us cs) : us = (cs.map fun c => tx [c]).map V.str := by
  rw [List.map_map]
  refine List.ext_getElem? fun i => ?_
  rw [List.getElem?_map]
  cases e : cs[i]? with
  | none =>
    have := List.getElem?_eq_none_iff.mp e
    exact List.getElem?_eq_none_iff.mpr (by rw [h.len]; exact this)
  | some c =>
    obtain ⟨u, eu, hu⟩ := h.at e
    rw [eu, hu]; rfl
theorem name_tx {cs : List Nat} (h1 : 1 ≤ cs.length) (h8 : cs.length ≤ 8) (h : ∀ c ∈ cs, lowC c = true) : nameS (tx cs) = true := by
  unfold nameS
  rw [tx_len, tx_list, decide_eq_true h1, decide_eq_true h8]
  exact List.all_eq_true.mpr h
theorem lets_at : ∀ i : Nat, i < 26 → lets.cps.toList[i]? = some (97 + i) := by decide +kernel
def wordsL : List Str := ["call", "step", "return", "step", "call", "return"]
section
variable {P : Program} {w : World} {K : PySem.W.Frag} {mg : Str → Option Value} {base : Heap}
def spMenu : Sp := fun vs H Q _ => ∃ (c : Int) (m : Nat), vs = [.int c, .int (m : Nat)] ∧ 0 ≤ c ∧ 3 ≤ m ∧ m ≤ 8 ∧ ∀ (l : Addr) (us : List V) (ds : List Dd) H', H l = none → H' l = some (.lst us) → Rw (TDv H') us ds → MenuOk ds → Kp [] H H' → Q (.ref l) H'
structure MnI (k : Nat) (ds : List Dd) : Prop where
  nd : ds.Nodup
  good : ∀ d ∈ ds, GoodDd d
  hi : ds.length ≤ k
  early : k ≤ 3 → ds.length = k
  late : 3 ≤ k → 3 ≤ ds.length
  word : ∀ j : Nat, j < 3 → j < k → ∃ d, ds[j]? = some d ∧ wordsL[j]? = some d.2.1
theorem words_inj (i j : Nat) (hi : i < 3) (hj : j < 3) (h : wordsL[i]? = wordsL[j]?) : i = j := by
  match i, j, hi, hj, h with
  | 0, 0, _, _, _ => rfl
  | 1, 1, _, _, _ => rfl
  | 2, 2, _, _, _ => rfl
  | 0, 1, _, _, h => exact absurd (Option.some.inj h) (by decide +kernel)
  | 0, 2, _, _, h => exact absurd (Option.some.inj h) (by decide +kernel)
  | 1, 0, _, _, h => exact absurd (Option.some.inj h) (by decide +kernel)
  | 1, 2, _, _, h => exact absurd (Option.some.inj h) (by decide +kernel)
  | 2, 0, _, _, h => exact absurd (Option.some.inj h) (by decide +kernel)
  | 2, 1, _, _, h => exact absurd (Option.some.inj h) (by decide +kernel)
theorem words_at : ∀ j : Nat, j < 6 → ∃ wd, wordsL[j]? = some wd ∧ (wd = ("call" : Str) ∨ wd ≠ ("call" : Str) ∧ (wd = ("return" : Str) ∨ wd = ("step" : Str))) := by
  intro j h
  match j, h with
  | 0, _ => exact ⟨_, rfl, .inl rfl⟩
  | 1, _ => exact ⟨_, rfl, .inr ⟨by decide +kernel, .inr rfl⟩⟩
  | 2, _ => exact ⟨_, rfl, .inr ⟨by decide +kernel, .inl rfl⟩⟩
  | 3, _ => exact ⟨_, rfl, .inr ⟨by decide +kernel, .inr rfl⟩⟩
  | 4, _ => exact ⟨_, rfl, .inl rfl⟩
  | 5, _ => exact ⟨_, rfl, .inr ⟨by decide +kernel, .inl rfl⟩⟩
theorem MnI.put {j : Nat} {ds : List Dd} {d : Dd} (h : MnI j ds) (hd : d ∉ ds) (gd : GoodDd d) (hw : j < 3 → wordsL[j]? = some d.2.1) : MnI (j + 1) (ds ++ [d]) := by
  have hl := h.hi
  refine ⟨?_, fun x hx => ?_, by rw [List.length_append, List.length_singleton]; omega, fun e => by rw [List.length_append, List.length_singleton, h.early (by omega)], fun e => ?_, fun i i3 ij => ?_⟩
  · rw [List.nodup_append]
    refine ⟨h.nd, by simp, fun a ha b hb => ?_⟩
    rw [List.mem_singleton.mp hb]
    exact fun z => hd (z ▸ ha)
  · rcases List.mem_append.mp hx with hx | hx
    · exact h.good x hx
    · rw [List.mem_singleton.mp hx]; exact gd
  · rw [List.length_append, List.length_singleton]
    by_cases e3 : 3 ≤ j
    · have := h.late e3; omega
    · have := h.early (by omega); omega
  · by_cases e : i < j
    · obtain ⟨x, ex, wx⟩ := h.word i i3 e
      exact ⟨x, by rw [List.getElem?_append_left (List.getElem?_eq_some_iff.mp ex).1]; exact ex, wx⟩
    · have : i = j := by omega
      subst this
      have := h.early (by omega)
      exact ⟨d, by rw [List.getElem?_append_right (by omega), show i - ds.length = 0 by omega]; rfl, hw i3⟩
theorem MnI.skip {j : Nat} {ds : List Dd} {d : Dd} (h : MnI j ds) (hd : d ∈ ds) (hw : j < 3 → wordsL[j]? = some d.2.1) : MnI (j + 1) ds := by
  have j3 : 3 ≤ j := by
    rcases Nat.lt_or_ge j 3 with j3 | j3
    · exfalso
      obtain ⟨i, hi, ei⟩ := List.mem_iff_getElem.mp hd
      have hl := h.early (by omega)
      obtain ⟨x, ex, wx⟩ := h.word i (by omega) (by omega)
      rw [List.getElem?_eq_getElem hi, ei] at ex
      cases ex
      have := words_inj i j (by omega) j3 (wx.trans (hw j3).symm)
      omega
    · exact j3
  have hl := h.hi
  exact ⟨h.nd, h.good, by omega, fun e => by omega, fun _ => h.late j3, fun i i3 ij => h.word i i3 (by omega)⟩
theorem ok_law_menu {f : Addr} {fd : FuncData} (D : Df K mg "_law_menu" s_law_menu ["_law_cell_here", "_law_many"] f fd) (T : BtG mg) {g1 : Addr} {gd1 : FuncData} (D_law_draws : Df K mg "_law_draws" s_law_draws ["_law_cell_here", "_law_spans"] g1 gd1) (G_law_draws : FnOk P w K mg base CX0 1 g1 gd1 ["_law_cell_here", "_law_spans"] (spDraws K)) : FnOk P w K mg base CX0 2 f fd ["_law_cell_here", "_law_many"] spMenu := by
  refine D.F.ok sc_law_menu (fun vs H Q E h => ?_) (fun cdv A outer s H vs Q E hr h => ?_)
  · obtain ⟨_, _, rfl, _⟩ := h
    rfl
  · obtain ⟨c, m, rfl, c0, m3, m8, q⟩ := h
    refine ⟨_, (pss_cons (ps_set (i := 2) sc_law_menu.nd rfl (Or.inr rfl) pe_str)
      (pss_cons (ps_set (i := 3) sc_law_menu.nd rfl (Or.inl rfl) (pe_lst (pa_cons pe_str (pa_cons pe_str (pa_cons pe_str (pa_cons pe_str (pa_cons pe_str (pa_cons pe_str pa_nil))))))))
      (pss_cons (ps_set (i := 4) sc_law_menu.nd rfl (Or.inl rfl) (pe_lst pa_nil))
      (pss_cons (ps_for PassesOwn.never rfl (pi_range1 rfl T.b_range (pa_cons (pv 1) pa_nil)) (pg_name (i := 5) sc_law_menu.nd rfl (Or.inl rfl)) (pss_one (ps_set (i := 4) sc_law_menu.nd rfl (Or.inl rfl) (pe_op op_cat (pv 4) (pe_lst (pa_cons pe_int (pa_cons pe_int (pa_cons pe_int pa_nil))))))))
      (pss_cons (ps_set (i := 6) sc_law_menu.nd rfl (Or.inl rfl) (pe_call G_law_draws (hr.mono (by decide)) rfl D_law_draws.g D_law_draws.F.kp D_law_draws.b .nil pass0 (pa_cons (pv 0) (pa_cons (pv 4) pa_nil))))
      (pss_cons (ps_set (i := 7) sc_law_menu.nd rfl (Or.inl rfl) (pe_lst pa_nil))
      (pss_cons (ps_for PassesOwn.never rfl (pi_range1 rfl T.b_range (pa_cons (pv 1) pa_nil)) (pg_name (i := 5) sc_law_menu.nd rfl (Or.inl rfl)) (pss_cons (ps_set (i := 8) sc_law_menu.nd rfl (Or.inl rfl) (pe_ix (r := rIxL K) ix_list (pv 6) (pe_op op_add (pe_op op_mul pe_int (pv 5)) pe_int) (fun _ _ => rfl)))
      (pss_cons (ps_if (pt_cmpR op_eq (pe_ix (r := rIxL K) ix_list (pv 3) (pe_op op_mod (pv 5) pe_int) (fun _ _ => rfl)) pe_str (nomark _)) (pss_cons (ps_set (i := 9) sc_law_menu.nd rfl (Or.inr rfl) (pe_ix (r := rIxL K) ix_list (pv 6) (pe_op op_add (pe_op op_mul pe_int (pv 5)) pe_int) (fun _ _ => rfl)))
      (pss_one (ps_set (i := 8) sc_law_menu.nd rfl (Or.inl rfl) (pe_join pe_str (pe_lc (own := [("_law_j", 10)]) (g := (gName 10)) (tt := tYes) rfl sc_law_menu.nd (pi_range1 rfl T.b_range (pa_cons (pe_op op_add pe_int (pe_op op_mod (pe_callTy (T := "int") (r := rInt1) call_int1 (by rfl) T.b_int (by decide +kernel) (pa_cons (pv 9) pa_nil)) pe_int)) pa_nil)) (blkOk_by (N := ["_law_cell_here", "_law_many", "_law_letters", "_law_words", "_law_spans", "_law_k", "_law_draws_here", "_law_menu_here", "_law_what", "_law_name", "_law_j", "_law_deed"]) (sc := defScope s_law_menu) (by decide +kernel)) (fun _ _ _ _ _ => (pg_name (i := 10) sc_law_menu.nd rfl (Or.inl rfl))) (fun _ _ _ _ _ => pts_nil) (fun _ _ _ _ _ => (pe_ix ix_str (pv 2) (pe_op op_mod (pe_callTy (T := "int") (r := rInt1) call_int1 (by rfl) T.b_int (by decide +kernel) (pa_cons (pe_op op_add (pe_op op_fdiv (pv 9) pe_int) (pe_op op_mul (pv 10) (pe_op op_fdiv (pv 9) pe_int))) pa_nil)) pe_int) (fun _ _ => rfl)))))))) pss_nil)
      (pss_cons (ps_set (i := 11) sc_law_menu.nd rfl (Or.inl rfl) (pe_tup (pa_cons (pe_ix (r := rIxL K) ix_list (pv 6) (pe_op op_mul pe_int (pv 5)) (fun _ _ => rfl)) (pa_cons (pe_ix (r := rIxL K) ix_list (pv 3) (pe_op op_mod (pv 5) pe_int) (fun _ _ => rfl)) (pa_cons (pv 8) pa_nil)))))
      (pss_one (ps_if (pt_cmpR (op_notInS (hu5 hr)) (pv 11) (pv 7) (by rfl)) (pss_one (ps_expr (pe_bm PySem.F.plainAttrs_list PySem.F.slot_list_append PySem.F.type_list_append mt_append (pv 7) (pa_cons (pv 11) pa_nil)))) pss_nil))))))
      (pss_one (ps_ret (pv 7)))))))))), ?_⟩
    try simp (maxSteps := 1000000) only [tSeq, tIfS, tTest, tOp, tUn, tCB, tCons, tNil, tVar, tC, rI0, rI, rU, rEq, rNe, tRet, tRetN, tAsg, gName, gSub, tBM, tBM0, tNext, tB, tNot, tAnd, tOr, tIf, tCall, tDrop, tBreak, tCont, L2.start, tDGet, sDPut, tTup, tLst, tDNewK, tRevL, rCat, rAppend, rPop, rSetL, tAndV, tOrV, tNotV, tSl, tPart, tNoPart, tM1, gTup, gCons, gNil, cxK, cxnK, List.map_cons, List.map_nil, List.length_cons, List.length_nil, List.replicate, List.cons_append, List.nil_append, List.append_nil, List.set_cons_zero, List.set_cons_succ, List.getElem?_cons_zero, List.getElem?_cons_succ, Option.some.injEq, V.ref.injEq, V.int.injEq, V.str.injEq, V.bl.injEq, V.ty.injEq, exists_eq_left', exists_eq_left, exists_and_left, List.cons.injEq, and_true, true_and, sc_ii, sc_ss, sc_bb, sc_ni, sc_in, sc_is, sc_si, sc_nn, decide_true, decide_false, reduceCtorEq, Bool.false_eq_true, if_true, if_false, ite_true, ite_false, exists_const, eq_self, false_and, and_false, or_false, false_or, exists_false, Evl.rLenS, rSum, wipe, tYes, exists_eq, exists_eq', rIxL, rIxT, rIxS, exists_and_right, gt_iff_lt, not_true_eq_false, not_false_eq_true, Bool.not_true, Bool.not_false, decide_eq_true_eq, Nat.reduceSub, Nat.reduceAdd, List.append_assoc, tChain, tDIn, tDNotIn, sDDel, tAug, ipI, rInt1_int, rInt1_bl]
    refine ⟨by rw [sizeLine_eq]; decide, fun wl nw => ⟨Nat.zero_le _, fun sl ns => ?_⟩⟩
    have kw : Kp [] H (upd H wl (.lst [V.str (Str.ofString "call"), V.str (Str.ofString "step"), V.str (Str.ofString "return"), V.str (Str.ofString "step"), V.str (Str.ofString "call"), V.str (Str.ofString "return")])) := Kp.new nw
    have hw : (upd H wl (.lst [V.str (Str.ofString "call"), V.str (Str.ofString "step"), V.str (Str.ofString "return"), V.str (Str.ofString "step"), V.str (Str.ofString "call"), V.str (Str.ofString "return")])) wl = some (.lst (wordsL.map V.str)) := upd_same
    generalize upd H wl (.lst [V.str (Str.ofString "call"), V.str (Str.ofString "step"), V.str (Str.ofString "return"), V.str (Str.ofString "step"), V.str (Str.ofString "call"), V.str (Str.ofString "return")]) = H1 at kw hw ns
    have ks := (Kp.new ns : Kp [] H1 (upd H1 sl (.lst [])))
    refine forN m (by omega) (fun j σ H' => ∃ (sp : Addr) (c5 : Option V), σ = [some (.int c), some (.int (m : Nat)), some (.str (Str.ofString "abcdefghijklmnopqrstuvwxyz")), some (.ref wl), some (.ref sp), c5, none, none, none, none, none, none] ∧ H' sp = some (.lst ((spansM j).map V.int)) ∧ Kp [] H1 H') (fun R r => ⟨_, rfl, r⟩) ⟨sl, none, rfl, upd_same, ks⟩ (fun j σ H' hj h => ?_) fun σ H' h => ?_
    · obtain ⟨sp, c5, rfl, hsp, kp⟩ := h
      try simp (maxSteps := 1000000) only [tSeq, tIfS, tTest, tOp, tUn, tCB, tCons, tNil, tVar, tC, rI0, rI, rU, rEq, rNe, tRet, tRetN, tAsg, gName, gSub, tBM, tBM0, tNext, tB, tNot, tAnd, tOr, tIf, tCall, tDrop, tBreak, tCont, L2.start, tDGet, sDPut, tTup, tLst, tDNewK, tRevL, rCat, rAppend, rPop, rSetL, tAndV, tOrV, tNotV, tSl, tPart, tNoPart, tM1, gTup, gCons, gNil, cxK, cxnK, List.map_cons, List.map_nil, List.length_cons, List.length_nil, List.replicate, List.cons_append, List.nil_append, List.append_nil, List.set_cons_zero, List.set_cons_succ, List.getElem?_cons_zero, List.getElem?_cons_succ, Option.some.injEq, V.ref.injEq, V.int.injEq, V.str.injEq, V.bl.injEq, V.ty.injEq, exists_eq_left', exists_eq_left, exists_and_left, List.cons.injEq, and_true, true_and, sc_ii, sc_ss, sc_bb, sc_ni, sc_in, sc_is, sc_si, sc_nn, decide_true, decide_false, reduceCtorEq, Bool.false_eq_true, if_true, if_false, ite_true, ite_false, exists_const, eq_self, false_and, and_false, or_false, false_or, exists_false, Evl.rLenS, rSum, wipe, tYes, exists_eq, exists_eq', rIxL, rIxT, rIxS, exists_and_right, gt_iff_lt, not_true_eq_false, not_false_eq_true, Bool.not_true, Bool.not_false, decide_eq_true_eq, Nat.reduceSub, Nat.reduceAdd, List.append_assoc, tChain, tDIn, tDNotIn, sDDel, tAug, ipI, rInt1_int, rInt1_bl]
      refine ⟨by rw [sizeLine_eq]; decide, fun p np => ?_⟩
      have k1 := (Kp.new np : Kp [] H' (upd H' p (.lst [.int 3, .int 10, .int 5408])))
      refine ⟨_, k1 _ _ not0 hsp, _, upd_same, ?_, fun r nr => ⟨?_, (kp.trans k1).trans (Kp.new nr)⟩⟩
      · rw [List.length_map, spansM_len, sizeLine_eq]
        show 3 * j + 3 ≤ _
        omega
      · rw [upd_same, show spansM (j + 1) = spansM j ++ [3, 10, 5408] from rfl, List.map_append]; rfl
    · obtain ⟨sp, c5, rfl, hsp, kp⟩ := h
      try simp (maxSteps := 1000000) only [tSeq, tIfS, tTest, tOp, tUn, tCB, tCons, tNil, tVar, tC, rI0, rI, rU, rEq, rNe, tRet, tRetN, tAsg, gName, gSub, tBM, tBM0, tNext, tB, tNot, tAnd, tOr, tIf, tCall, tDrop, tBreak, tCont, L2.start, tDGet, sDPut, tTup, tLst, tDNewK, tRevL, rCat, rAppend, rPop, rSetL, tAndV, tOrV, tNotV, tSl, tPart, tNoPart, tM1, gTup, gCons, gNil, cxK, cxnK, List.map_cons, List.map_nil, List.length_cons, List.length_nil, List.replicate, List.cons_append, List.nil_append, List.append_nil, List.set_cons_zero, List.set_cons_succ, List.getElem?_cons_zero, List.getElem?_cons_succ, Option.some.injEq, V.ref.injEq, V.int.injEq, V.str.injEq, V.bl.injEq, V.ty.injEq, exists_eq_left', exists_eq_left, exists_and_left, List.cons.injEq, and_true, true_and, sc_ii, sc_ss, sc_bb, sc_ni, sc_in, sc_is, sc_si, sc_nn, decide_true, decide_false, reduceCtorEq, Bool.false_eq_true, if_true, if_false, ite_true, ite_false, exists_const, eq_self, false_and, and_false, or_false, false_or, exists_false, Evl.rLenS, rSum, wipe, tYes, exists_eq, exists_eq', rIxL, rIxT, rIxS, exists_and_right, gt_iff_lt, not_true_eq_false, not_false_eq_true, Bool.not_true, Bool.not_false, decide_eq_true_eq, Nat.reduceSub, Nat.reduceAdd, List.append_assoc, tChain, tDIn, tDNotIn, sDDel, tAug, ipI, rInt1_int, rInt1_bl]
      refine ⟨c, sp, spansM m, rfl, c0, sq_l hsp, by rw [spansM_len]; omega, spansM_pos, fun dr dl H2 nd hdl dlen hdr k2 => ⟨Nat.zero_le _, fun ml nm => ?_⟩⟩
      have kd := kp.trans k2
      have hw2 := kd _ _ not0 hw
      refine forN m (by omega) (fun j σ H' => ∃ (us : List V) (ds : List Dd) (c5 c8 c9 c11 : Option V), σ = [some (.int c), some (.int (m : Nat)), some (.str (Str.ofString "abcdefghijklmnopqrstuvwxyz")), some (.ref wl), some (.ref sp), c5, some (.ref dl), some (.ref ml), c8, c9, none, c11] ∧ H' ml = some (.lst us) ∧ Rw (TDv H') us ds ∧ MnI j ds ∧ Kp [] H2 H') (fun R r => ⟨_, rfl, r⟩) ⟨[], [], _, _, _, _, rfl, upd_same, .nil, ⟨List.nodup_nil, fun d h => (nomatch h), Nat.le_refl _, fun _ => rfl, fun h => absurd h (by decide), fun j _ h => absurd h (Nat.not_lt_zero j)⟩, Kp.new nm⟩ (fun j σ H' hj h => ?_) fun σ H' h => ?_
      · obtain ⟨us, ds, c5, c8, c9, c11, rfl, hml, hus, hI, k3⟩ := h
        have hw3 := k3 _ _ not0 hw2
        have hdl3 := k3 _ _ not0 hdl
        obtain ⟨s1, s2, s3⟩ := spansM_at (k := m) hj
        have at_ : ∀ (i : Nat) (s : Int), (spansM m)[i]? = some s → ∃ z : Int, atI (dr.map V.int) ((i : Nat) : Int) = some (.int z) ∧ 0 ≤ z ∧ z < s := fun i s e => by
          have li : i < dr.length := by
            rw [dlen]; exact (List.getElem?_eq_some_iff.mp e).1
          have ez : dr[i]? = some dr[i] := List.getElem?_eq_getElem li
          exact ⟨dr[i], atI_of (by omega) (by rw [List.getElem?_map, Int.toNat_natCast, ez]; rfl), hdr i _ s ez e⟩
        obtain ⟨d0, e0, d00, d03⟩ := at_ _ _ s1
        obtain ⟨d1, e1, d10, d1x⟩ := at_ _ _ s2
        obtain ⟨d2, e2, d20, d2x⟩ := at_ _ _ s3
        rw [show ((3 * j : Nat) : Int) = 3 * (j : Int) by omega] at e0
        rw [show ((3 * j + 1 : Nat) : Int) = 3 * (j : Int) + 1 by omega] at e1
        rw [show ((3 * j + 2 : Nat) : Int) = 3 * (j : Int) + 2 by omega] at e2
        obtain ⟨wd, ew, hwd⟩ := words_at (j % 6) (by omega)
        have ewA : atI (wordsL.map V.str) ((j : Int) % 6) = some (.str wd) := by
          rw [show (j : Int) % 6 = ((j % 6 : Nat) : Int) by omega]
          exact atI_of (by omega) (by rw [List.getElem?_map, Int.toNat_natCast, ew]; rfl)
        have hw : j < 3 → wordsL[j]? = some wd := fun h => by rw [show j % 6 = j by omega] at ew; exact ew
        have c3 : CMul 3 (j : Int) := .inl ⟨by decide, by decide⟩
        have tail : ∀ (x : Key) (H3 : Hp), Kp [] H' H3 → GoodDd (d0, wd, x) → ∀ p, H3 p = none → rInS K true (V.ref p) (V.ref ml) (upd H3 p (.tup [.int d0, .str wd, kV x])) (fun y G => ∃ k, y = V.bl k ∧ if k = true then tyV K "list" (.ref ml) G ∧ ∃ x, G ml = some (.lst x) ∧ x.length < sizeLine ∧ ∃ us, upd G ml (.lst (x ++ [.ref p])) ml = some (.lst us) ∧ ∃ x5, Rw (TDv (upd G ml (.lst (x ++ [.ref p])))) us x5 ∧ MnI (j + 1) x5 ∧ Kp [] H2 (upd G ml (.lst (x ++ [.ref p]))) else ∃ us, G ml = some (.lst us) ∧ ∃ x, Rw (TDv G) us x ∧ MnI (j + 1) x ∧ Kp [] H2 G) := by
          intro x H3 k4 gd p np
          have kp2 : Kp [] H3 (upd H3 p (.tup [.int d0, .str wd, kV x])) := Kp.new np
          have hp : TD (upd H3 p (.tup [.int d0, .str wd, kV x])) p (d0, wd, x) := upd_same
          generalize upd H3 p (.tup [.int d0, .str wd, kV x]) = G at kp2 hp
          have kG := k4.trans kp2
          have hml2 := kG _ _ not0 hml
          have hus2 : Rw (TDv G) us ds := hus.mono fun _ _ z => z.tp kG.tps
          have pv : TDv G (.ref p) (d0, wd, x) := ⟨p, rfl, hp⟩
          refine ⟨_, _, ml, us, rfl, .inl (sq_l hml2), rwDp hus2, pv.dp, (shDd gd).1, shDds hI.good, _, rfl, ?_⟩
          rw [if_pos rfl, anyDd]
          cases hh : hasD ds (d0, wd, x) with
          | true =>
            simp only [Bool.not_true, Bool.false_eq_true, if_false]
            exact ⟨us, hml2, ds, hus2, hI.skip (hasD_iff.mp hh) hw, k3.trans kG⟩
          | false =>
            simp only [Bool.not_false, if_true]
            have nin : (d0, wd, x) ∉ ds := fun z => by rw [hasD_iff.mpr z] at hh; cases hh
            refine ⟨.inl ⟨rfl, _, sq_l hml2⟩, us, hml2, by rw [hus2.len]; have := hI.hi; rw [sizeLine_eq]; omega, _, upd_same, ds ++ [(d0, wd, x)], ?_, hI.put nin gd hw, (k3.trans kG).wr nm⟩
            have tp : Tp G (upd G ml (.lst (us ++ [.ref p]))) := (Tp.refl G).putL hml2
            exact (hus2.mono fun _ _ z => z.tp tp).snoc (pv.tp tp)
        try simp (maxSteps := 1000000) only [tSeq, tIfS, tTest, tOp, tUn, tCB, tCons, tNil, tVar, tC, rI0, rI, rU, rEq, rNe, tRet, tRetN, tAsg, gName, gSub, tBM, tBM0, tNext, tB, tNot, tAnd, tOr, tIf, tCall, tDrop, tBreak, tCont, L2.start, tDGet, sDPut, tTup, tLst, tDNewK, tRevL, rCat, rAppend, rPop, rSetL, tAndV, tOrV, tNotV, tSl, tPart, tNoPart, tM1, gTup, gCons, gNil, cxK, cxnK, List.map_cons, List.map_nil, List.length_cons, List.length_nil, List.replicate, List.cons_append, List.nil_append, List.append_nil, List.set_cons_zero, List.set_cons_succ, List.getElem?_cons_zero, List.getElem?_cons_succ, Option.some.injEq, V.ref.injEq, V.int.injEq, V.str.injEq, V.bl.injEq, V.ty.injEq, exists_eq_left', exists_eq_left, exists_and_left, List.cons.injEq, and_true, true_and, sc_ii, sc_ss, sc_bb, sc_ni, sc_in, sc_is, sc_si, sc_nn, decide_true, decide_false, reduceCtorEq, Bool.false_eq_true, if_true, if_false, ite_true, ite_false, exists_const, eq_self, false_and, and_false, or_false, false_or, exists_false, Evl.rLenS, rSum, wipe, tYes, exists_eq, exists_eq', rIxL, rIxT, rIxS, exists_and_right, gt_iff_lt, not_true_eq_false, not_false_eq_true, Bool.not_true, Bool.not_false, decide_eq_true_eq, Nat.reduceSub, Nat.reduceAdd, List.append_assoc, tChain, tDIn, tDNotIn, sDDel, tAug, ipI, rInt1_int, rInt1_bl]
        refine ⟨c3, _, sq_l hdl3, _, e1, by decide, _, sq_l hw3, _, ewA, rfl, ?_⟩
        refine ite2 (fun h1 => ?_) (fun h1 => ?_)
        · have h1 : wd = ("call" : Str) := V.str.inj h1
          refine ⟨c3, _, sq_l hdl3, _, e2, ?_⟩
          have q8a := Int.emod_nonneg d2 (show (8 : Int) ≠ 0 by decide)
          have q8b := Int.emod_lt_of_pos d2 (show (0 : Int) < 8 by decide)
          obtain ⟨q8, e8⟩ := Int.eq_ofNat_of_zero_le q8a
          rw [e8] at q8b
          refine lcRgE (1 + q8) (by omega) (fun _ v cc => v = V.str (tx [cc])) (fun cc => lowC cc = true) (fun _ _ _ _ _ h => h) (show 10 < 12 by decide) (fun R r => ?_) (fun i H3 Q3 hi k4 q3 => ?_) (fun D us' cs H3 nD hD hR hl hG k4 => ?_)
          · try simp (maxSteps := 1000000) only [tSeq, tIfS, tTest, tOp, tUn, tCB, tCons, tNil, tVar, tC, rI0, rI, rU, rEq, rNe, tRet, tRetN, tAsg, gName, gSub, tBM, tBM0, tNext, tB, tNot, tAnd, tOr, tIf, tCall, tDrop, tBreak, tCont, L2.start, tDGet, sDPut, tTup, tLst, tDNewK, tRevL, rCat, rAppend, rPop, rSetL, tAndV, tOrV, tNotV, tSl, tPart, tNoPart, tM1, gTup, gCons, gNil, cxK, cxnK, List.map_cons, List.map_nil, List.length_cons, List.length_nil, List.replicate, List.cons_append, List.nil_append, List.append_nil, List.set_cons_zero, List.set_cons_succ, List.getElem?_cons_zero, List.getElem?_cons_succ, Option.some.injEq, V.ref.injEq, V.int.injEq, V.str.injEq, V.bl.injEq, V.ty.injEq, exists_eq_left', exists_eq_left, exists_and_left, List.cons.injEq, and_true, true_and, sc_ii, sc_ss, sc_bb, sc_ni, sc_in, sc_is, sc_si, sc_nn, decide_true, decide_false, reduceCtorEq, Bool.false_eq_true, if_true, if_false, ite_true, ite_false, exists_const, eq_self, false_and, and_false, or_false, false_or, exists_false, Evl.rLenS, rSum, wipe, tYes, exists_eq, exists_eq', rIxL, rIxT, rIxS, exists_and_right, gt_iff_lt, not_true_eq_false, not_false_eq_true, Bool.not_true, Bool.not_false, decide_eq_true_eq, Nat.reduceSub, Nat.reduceAdd, List.append_assoc, tChain, tDIn, tDNotIn, sDDel, tAug, ipI, rInt1_int, rInt1_bl]
            refine ⟨by decide, ?_⟩
            rw [e8, show (1 : Int) + (q8 : Nat) = ((1 + q8 : Nat) : Int) by omega]
            exact r
          · try simp (maxSteps := 1000000) only [tSeq, tIfS, tTest, tOp, tUn, tCB, tCons, tNil, tVar, tC, rI0, rI, rU, rEq, rNe, tRet, tRetN, tAsg, gName, gSub, tBM, tBM0, tNext, tB, tNot, tAnd, tOr, tIf, tCall, tDrop, tBreak, tCont, L2.start, tDGet, sDPut, tTup, tLst, tDNewK, tRevL, rCat, rAppend, rPop, rSetL, tAndV, tOrV, tNotV, tSl, tPart, tNoPart, tM1, gTup, gCons, gNil, cxK, cxnK, List.map_cons, List.map_nil, List.length_cons, List.length_nil, List.replicate, List.cons_append, List.nil_append, List.append_nil, List.set_cons_zero, List.set_cons_succ, List.getElem?_cons_zero, List.getElem?_cons_succ, Option.some.injEq, V.ref.injEq, V.int.injEq, V.str.injEq, V.bl.injEq, V.ty.injEq, exists_eq_left', exists_eq_left, exists_and_left, List.cons.injEq, and_true, true_and, sc_ii, sc_ss, sc_bb, sc_ni, sc_in, sc_is, sc_si, sc_nn, decide_true, decide_false, reduceCtorEq, Bool.false_eq_true, if_true, if_false, ite_true, ite_false, exists_const, eq_self, false_and, and_false, or_false, false_or, exists_false, Evl.rLenS, rSum, wipe, tYes, exists_eq, exists_eq', rIxL, rIxT, rIxS, exists_and_right, gt_iff_lt, not_true_eq_false, not_false_eq_true, Bool.not_true, Bool.not_false, decide_eq_true_eq, Nat.reduceSub, Nat.reduceAdd, List.append_assoc, tChain, tDIn, tDNotIn, sDDel, tAug, ipI, rInt1_int, rInt1_bl]
            have z0 := Int.emod_nonneg (d2 / 8 + (i : Int) * (d2 / 208)) (show (26 : Int) ≠ 0 by decide)
            have z1 := Int.emod_lt_of_pos (d2 / 8 + (i : Int) * (d2 / 208)) (show (0 : Int) < 26 by decide)
            generalize (d2 / 8 + (i : Int) * (d2 / 208)) % 26 = z at z0 z1 ⊢
            refine ⟨⟨by decide, by decide⟩, ⟨by decide, by decide⟩, .inl ⟨by omega, by omega⟩, by decide, ?_, 97 + z.toNat, atI_of z0 (lets_at z.toNat (by omega)), q3 _ (97 + z.toNat) H3 rfl ?_ (Kp.refl _ _)⟩
            · rw [sizeLine_eq]; decide +kernel
            · unfold lowC
              rw [Bool.and_eq_true, decide_eq_true_eq, decide_eq_true_eq]
              omega
          · have eu := rwTx hR
            have hdl4 := k4 _ _ not0 hdl3
            have hw4 := k4 _ _ not0 hw3
            rw [eu] at hD
            refine ⟨D, rfl, cs.map fun c => tx [c], .inl (sq_l hD), ?_, c3, _, sq_l hdl4, _, e0, by decide, _, sq_l hw4, _, ewA, by rw [sizeLine_eq]; decide, fun p np => ?_⟩
            · rw [sum_ones]
              show _ + _ * 0 ≤ _
              omega
            rw [show Txt.join (Str.ofString "") (cs.map fun c => tx [c]) = tx cs from join_ones cs]
            exact tail (.inr (tx cs)) H3 k4 ⟨d00, d03, .inl ⟨h1, tx cs, rfl, name_tx (by omega) (by omega) hG⟩⟩ p np
        · have h1 : ¬ wd = ("call" : Str) := fun z => h1 (congrArg V.str z)
          have hw2' : wd = ("return" : Str) ∨ wd = ("step" : Str) := by
            rcases hwd with h | h
            · exact absurd h h1
            · exact h.2
          exact ⟨c3, _, sq_l hdl3, _, e0, by decide, _, sq_l hw3, _, ewA, by rw [sizeLine_eq]; decide, fun p np => tail (.inl d1) H' (Kp.refl _ _) ⟨d00, d03, .inr ⟨hw2', d1, rfl, d10, d1x⟩⟩ p np⟩
      · obtain ⟨us, ds, c5, c8, c9, c11, rfl, hml, hus, hI, k3⟩ := h
        try simp (maxSteps := 1000000) only [tSeq, tIfS, tTest, tOp, tUn, tCB, tCons, tNil, tVar, tC, rI0, rI, rU, rEq, rNe, tRet, tRetN, tAsg, gName, gSub, tBM, tBM0, tNext, tB, tNot, tAnd, tOr, tIf, tCall, tDrop, tBreak, tCont, L2.start, tDGet, sDPut, tTup, tLst, tDNewK, tRevL, rCat, rAppend, rPop, rSetL, tAndV, tOrV, tNotV, tSl, tPart, tNoPart, tM1, gTup, gCons, gNil, cxK, cxnK, List.map_cons, List.map_nil, List.length_cons, List.length_nil, List.replicate, List.cons_append, List.nil_append, List.append_nil, List.set_cons_zero, List.set_cons_succ, List.getElem?_cons_zero, List.getElem?_cons_succ, Option.some.injEq, V.ref.injEq, V.int.injEq, V.str.injEq, V.bl.injEq, V.ty.injEq, exists_eq_left', exists_eq_left, exists_and_left, List.cons.injEq, and_true, true_and, sc_ii, sc_ss, sc_bb, sc_ni, sc_in, sc_is, sc_si, sc_nn, decide_true, decide_false, reduceCtorEq, Bool.false_eq_true, if_true, if_false, ite_true, ite_false, exists_const, eq_self, false_and, and_false, or_false, false_or, exists_false, Evl.rLenS, rSum, wipe, tYes, exists_eq, exists_eq', rIxL, rIxT, rIxS, exists_and_right, gt_iff_lt, not_true_eq_false, not_false_eq_true, Bool.not_true, Bool.not_false, decide_eq_true_eq, Nat.reduceSub, Nat.reduceAdd, List.append_assoc, tChain, tDIn, tDNotIn, sDDel, tAug, ipI, rInt1_int, rInt1_bl]
        refine q ml us ds H' (((kw.trans kd)).free0 nm) hml hus ⟨hI.nd, hI.good, hI.late m3, by have := hI.hi; omega, ?_, ?_⟩ ((kw.trans kd).trans k3)
        · obtain ⟨d, ed, ew⟩ := hI.word 0 (by decide) (by omega)
          exact ⟨d, ed, (Option.some.inj ew).symm⟩
        · obtain ⟨d, ed, ew⟩ := hI.word 2 (by decide) (by omega)
          exact ⟨d, ed, (Option.some.inj ew).symm⟩
end
end My

set_option Elab.async false
set_option linter.all false
set_option maxRecDepth 100000
set_option maxHeartbeats 4000000
/-! ### slices and sums of any tuples, as their callers read them -/
namespace My
open PySem L2
theorem cut_to (xs : List V) (k : Nat) : cutV xs none (some (k : Int)) = xs.take k := by
  unfold cutV
  rw [HT.sIx_none, HT.sIx_nat, List.drop_zero, Nat.sub_zero]
  by_cases h : k ≤ xs.length
  · rw [Nat.min_eq_left h]
  · rw [Nat.min_eq_right (by omega), List.take_length, List.take_of_length_le (by omega)]
theorem cut_from (xs : List V) (k : Nat) : cutV xs (some (k : Int)) none = xs.drop k := by
  unfold cutV
  rw [HT.sIx_none, HT.sIx_nat]
  by_cases h : k ≤ xs.length
  · rw [Nat.min_eq_left h, List.take_of_length_le (by rw [List.length_drop]; omega)]
  · rw [Nat.min_eq_right (by omega), List.drop_length, List.drop_of_length_le (by omega), List.take_nil]
section
variable {K : PySem.W.Frag} {H : Hp} {a b : Addr} {xs ys : List V} {Q : VK} {k : Nat} {i : Int}
theorem slA_to (e : i = (k : Nat)) (h : H a = some (.tup xs)) (q : ∀ r H', H' r = some (.tup (xs.take k)) → Kp [] H H' → Q (.ref r) H') : rSlA K (.ref a) none (some i) H Q := by
  subst e
  refine ⟨a, xs, rfl, sq_t h, fun z => q a H ?_ (Kp.refl _ _), fun _ p np => q p _ (by rw [upd_same, cut_to]) (Kp.new np)⟩
  have z2 := z.2
  rw [HT.sIx_nat] at z2
  rw [h, List.take_of_length_le (by omega)]
theorem slA_from (e : i = (k : Nat)) (h : H a = some (.tup xs)) (q : ∀ r H', H' r = some (.tup (xs.drop k)) → Kp [] H H' → Q (.ref r) H') : rSlA K (.ref a) (some i) none H Q := by
  subst e
  refine ⟨a, xs, rfl, sq_t h, fun z => q a H ?_ (Kp.refl _ _), fun _ p np => q p _ (by rw [upd_same, cut_from]) (Kp.new np)⟩
  have z1 := z.1
  rw [HT.sIx_nat] at z1
  by_cases h0 : k = 0
  · rw [h, h0]; rfl
  · have : xs = [] := List.eq_nil_of_length_eq_zero (by omega)
    rw [h, this, List.drop_nil]
theorem catA_use (ha : H a = some (.tup xs)) (hb : H b = some (.tup ys)) (hl : xs.length + ys.length ≤ 1000) (q : ∀ r H', H' r = some (.tup (xs ++ ys)) → Kp [] H H' → Q (.ref r) H') : rCatA K (.ref a) (.ref b) H Q := by
  refine ⟨a, b, xs, ys, rfl, rfl, sq_t ha, sq_t hb, small (by omega), fun e => q b H ?_ (Kp.refl _ _), fun _ e => q a H ?_ (Kp.refl _ _), fun _ _ p np => q p _ upd_same (Kp.new np)⟩
  · rw [hb, e]; rfl
  · rw [ha, e, List.append_nil]
end
end My

set_option Elab.async false
set_option linter.all false
set_option maxRecDepth 100000
set_option maxHeartbeats 4000000
namespace My
open PySem L2 NdefX
abbrev s_law_copy : Stmt := top 22
theorem sc_law_copy : FnScope ["_law_rows_here", "_law_moves_here"] ["_law_rows_here"] (defScope s_law_copy) := ⟨rfl, rfl, rfl, by decide +kernel, rfl, by decide +kernel, by decide +kernel⟩
abbrev s_law_moves : Stmt := top 23
theorem sc_law_moves : FnScope ["_law_cell_here", "_law_menu_here", "_law_size", "_law_spans", "_law_k", "_law_draws_here", "_law_moves_here", "_law_start"] ["_law_cell_here", "_law_menu_here", "_law_size"] (defScope s_law_moves) := ⟨rfl, rfl, rfl, by decide +kernel, rfl, by decide +kernel, by decide +kernel⟩
/-- a row that stands elsewhere than D -/
def RwN (D : Addr) (H : Hp) (v : V) (ms : List Mv) : Prop := ∃ a us, v = .ref a ∧ a ≠ D ∧ H a = some (.lst us) ∧ Rw (TM H) us ms
theorem RwN.kp {D : Addr} {H H' : Hp} {v : V} {ms : List Mv} {ys : List V} (h : RwN D H v ms) (hD : H D = some (.lst ys)) (k : Kp [D] H H') : RwN D H' v ms := by
  obtain ⟨a, us, e, n, h, r⟩ := h
  exact ⟨a, us, e, n, k _ _ (not1 n) h, rwTM r (k.tpsL hD)⟩
theorem RwN.kp0 {D : Addr} {H H' : Hp} {v : V} {ms : List Mv} (h : RwN D H v ms) (k : Kp [] H H') : RwN D H' v ms := by
  obtain ⟨a, us, e, n, h, r⟩ := h
  exact ⟨a, us, e, n, k _ _ not0 h, rwTM r k.tps⟩
theorem RwN.rw_ {D : Addr} {H : Hp} {v : V} {ms : List Mv} (h : RwN D H v ms) : RwAt H v ms := by
  obtain ⟨a, us, e, n, h, r⟩ := h
  exact ⟨a, us, e, h, r⟩
structure MsI (b : Nat) (j : Nat) (ms : List Mv) : Prop where
  deed : ∀ m ∈ ms, GoodDd m.1
  goal : ∀ m ∈ ms, 0 ≤ m.2 ∧ m.2 < b
  uniq : (ms.map (·.1)).Nodup
  len : ms.length ≤ j
theorem MsI.put {b j : Nat} {ms : List Mv} {d : Dd} {g : Int} (h : MsI b j ms) (gd : GoodDd d) (hd : d ∉ ms.map (·.1)) (g0 : 0 ≤ g) (g1 : g < b) : MsI b (j + 1) (ms ++ [(d, g)]) := by
  refine ⟨fun x hx => ?_, fun x hx => ?_, ?_, by rw [List.length_append, List.length_singleton]; have := h.len; omega⟩
  · rcases List.mem_append.mp hx with hx | hx
    · exact h.deed x hx
    · rw [List.mem_singleton.mp hx]; exact gd
  · rcases List.mem_append.mp hx with hx | hx
    · exact h.goal x hx
    · rw [List.mem_singleton.mp hx]; exact ⟨g0, g1⟩
  · rw [List.map_append, List.nodup_append]
    refine ⟨h.uniq, by simp, fun a ha c hc => ?_⟩
    rw [show c = d by simpa using hc]
    exact fun z => hd (z ▸ ha)
theorem MsI.rev {b n : Nat} {ms : List Mv} (h : MsI b n ms) : MsI b n ms.reverse := ⟨fun m hm => h.deed m (List.mem_reverse.mp hm), fun m hm => h.goal m (List.mem_reverse.mp hm), ((List.reverse_perm ms).map (·.1)).nodup_iff.mpr h.uniq, by rw [List.length_reverse]; exact h.len⟩
theorem forN1 {ta : TA} {g : TG} {tb : TS} {D : Ends} {σ : L2.St} {H : Hp} (m : Nat) (hm : m ≤ 100000) (Pv : Nat → L2.St → Hp → Prop) (ht : ∀ R : List V → Hp → Prop, (∀ H1, Kp [] H H1 → R [.int (m : Nat)] H1) → ta σ H R) (h0 : ∀ H1, Kp [] H H1 → Pv 0 σ H1)
    (step : ∀ j σ H, j < m → Pv j σ H → g (.int (j : Nat)) σ H fun σ2 H2 => tb { D with nx := Pv (j + 1), ct := Pv (j + 1), bk := D.nx } σ2 H2) (fin : ∀ σ H, Pv m σ H → D.nx σ H) : tFor (iRng1 ta) g tb D σ H :=
  ht _ fun H1 k1 => ⟨(m : Nat), rfl, by omega, by omega, for_range (n := ((m : Nat) : Int).toNat) Pv (h0 H1 k1) (fun j σ H hj p => by rw [Int.zero_add]; exact step j σ H (by omega) p) fun σ H p => fin σ H (by rw [Int.toNat_natCast] at p; exact p)⟩
theorem dr_at {dr ss : List Int} (dlen : dr.length = ss.length) (hdr : ∀ (i : Nat) (d s : Int), dr[i]? = some d → ss[i]? = some s → 0 ≤ d ∧ d < s) {i : Nat} {s : Int} (e : ss[i]? = some s) : ∃ z : Int, atI (dr.map V.int) ((i : Nat) : Int) = some (.int z) ∧ 0 ≤ z ∧ z < s := by
  have li : i < dr.length := by
    rw [dlen]; exact (List.getElem?_eq_some_iff.mp e).1
  have ez : dr[i]? = some dr[i] := List.getElem?_eq_getElem li
  exact ⟨dr[i], atI_of (by omega) (by rw [List.getElem?_map, Int.toNat_natCast, ez]; rfl), hdr i _ s ez e⟩
theorem ifs_both {c : TT} {t u : TS} {D : Ends} {σ : L2.St} {H : Hp} (Pv : L2.St → Hp → Prop) (h : ∀ Dn : Ends, (∀ σ' H', Pv σ' H' → Dn.nx σ' H') → tIfS c t u Dn σ H) (h2 : ∀ σ' H', Pv σ' H' → D.nx σ' H') : tIfS c t u D σ H := h D h2
theorem rwRev {R : V → Mv → Prop} {us : List V} {ms : List Mv} (h : Rw R us ms) : Rw R us.reverse ms.reverse := by
  refine ⟨by simp [h.len], fun {i u} e => ?_⟩
  have li : i < us.length := by
    have := (List.getElem?_eq_some_iff.mp e).1
    simpa using this
  rw [List.getElem?_reverse li] at e
  obtain ⟨g, eg, hg⟩ := h.get e
  rw [List.getElem?_reverse (by rw [← h.len]; exact li), ← h.len]
  exact ⟨g, eg, hg⟩
def spansV (b : Int) : Nat → List Int
  | 0 => []
  | k + 1 => spansV b k ++ [3, b]
theorem spansV_len {b : Int} : ∀ k, (spansV b k).length = 2 * k
  | 0 => rfl
  | k + 1 => by unfold spansV; rw [List.length_append, spansV_len k]; show 2 * k + 2 = _; omega
theorem spansV_at {b : Int} : ∀ {k j : Nat}, j < k → (spansV b k)[2 * j]? = some 3 ∧ (spansV b k)[2 * j + 1]? = some b
  | k + 1, j, h => by
    have l := spansV_len (b := b) k
    unfold spansV
    by_cases e : j = k
    · subst e
      exact ⟨by rw [List.getElem?_append_right (by omega), show 2 * j - (spansV b j).length = 0 by omega]; rfl, by rw [List.getElem?_append_right (by omega), show 2 * j + 1 - (spansV b j).length = 1 by omega]; rfl⟩
    · obtain ⟨x, y⟩ := spansV_at (k := k) (j := j) (by omega)
      exact ⟨by rw [List.getElem?_append_left (by omega)]; exact x, by rw [List.getElem?_append_left (by omega)]; exact y⟩
theorem spansV_pos {b : Int} (hb : 0 < b ∧ b < 1000000) : ∀ {k : Nat}, ∀ x ∈ spansV b k, 0 < x ∧ x < 1000000
  | 0, x, h => nomatch h
  | k + 1, x, h => by
    unfold spansV at h
    rcases List.mem_append.mp h with h | h
    · exact spansV_pos hb x h
    · simp at h
      rcases h with rfl | rfl
      · decide
      · exact hb
theorem GoodRw.of {b n : Nat} {ms : List Mv} (h : MsI b n ms) (hn : n ≤ 100) : GoodRw b ms := ⟨h.deed, h.goal, h.uniq, by have := h.len; omega⟩
section
variable {P : Program} {w : World} {K : PySem.W.Frag} {mg : Str → Option Value} {base : Heap} {t1 : Tok}
def spCopy : Sp := fun vs H Q _ => ∃ (a : Addr) (rs : List V) (rows : List (List Mv)), vs = [.ref a] ∧ H a = some (.lst rs) ∧ Rw (RwAt H) rs rows ∧ rows.length ≤ 100 ∧ ∀ (l : Addr) (rs' : List V) H', H l = none → H' l = some (.lst rs') → Rw (RwN l H') rs' rows → (∀ v ∈ rs', FrD H v) → Kp [] H H' → Q (.ref l) H'
theorem ok_law_copy {f : Addr} {fd : FuncData} (D : Df K mg "_law_copy" s_law_copy ["_law_rows_here"] f fd) (T : BtW mg t1) : FnOk P w K mg base CX0 1 f fd ["_law_rows_here"] spCopy := by
  refine D.F.ok sc_law_copy (fun vs H Q E h => ?_) (fun cdv A outer s H vs Q E hr h => ?_)
  · obtain ⟨_, _, _, rfl, _⟩ := h
    rfl
  · obtain ⟨a, rs, rows, rfl, ha, hrs, rl, q⟩ := h
    refine ⟨_, (pss_one (ps_ret (pe_lc (own := [("_law_moves_here", 1)]) (g := (gName 1)) (tt := tYes) rfl sc_law_copy.nd (pi_list (pv 0)) (blkOk_by (N := ["_law_rows_here", "_law_moves_here"]) (sc := defScope s_law_copy) (by decide +kernel)) (fun _ _ _ _ _ => (pg_name (i := 1) sc_law_copy.nd rfl (Or.inl rfl))) (fun _ _ _ _ _ => pts_nil) (fun _ _ _ _ _ => (pe_callTy (T := "list") (r := rLstOf K) call_list_of (by rfl) T.b_list (by decide +kernel) (pa_cons (pv 1) pa_nil)))))), ?_⟩
    try simp (maxSteps := 1000000) only [tSeq, tIfS, tTest, tOp, tUn, tCB, tCons, tNil, tVar, tC, rI0, rI, rU, rEq, rNe, tRet, tRetN, tAsg, gName, gSub, tBM, tBM0, tNext, tB, tNot, tAnd, tOr, tIf, tCall, tDrop, tBreak, tCont, L2.start, tDGet, sDPut, tTup, tLst, tDNewK, tRevL, rCat, rAppend, rPop, rSetL, tAndV, tOrV, tNotV, tSl, tPart, tNoPart, tM1, gTup, gCons, gNil, cxK, cxnK, List.map_cons, List.map_nil, List.length_cons, List.length_nil, List.replicate, List.cons_append, List.nil_append, List.append_nil, List.set_cons_zero, List.set_cons_succ, List.getElem?_cons_zero, List.getElem?_cons_succ, Option.some.injEq, V.ref.injEq, V.int.injEq, V.str.injEq, V.bl.injEq, V.ty.injEq, exists_eq_left', exists_eq_left, exists_and_left, List.cons.injEq, and_true, true_and, sc_ii, sc_ss, sc_bb, sc_ni, sc_in, sc_is, sc_si, sc_nn, decide_true, decide_false, reduceCtorEq, Bool.false_eq_true, if_true, if_false, ite_true, ite_false, exists_const, eq_self, false_and, and_false, or_false, false_or, exists_false, Evl.rLenS, rSum, wipe, tYes, exists_eq, exists_eq', rIxL, rIxT, rIxS, exists_and_right, gt_iff_lt, not_true_eq_false, not_false_eq_true, Bool.not_true, Bool.not_false, decide_eq_true_eq, Nat.reduceSub, Nat.reduceAdd, List.append_assoc, tChain, tDIn, tDNotIn, sDDel, tAug, ipI, rInt1_int, rInt1_bl]
    refine lcK (R := RwAt) (R2 := fun D G v x => RwN D G v x ∧ FrD H v) (fun _ _ _ _ k z => z.kd k.kd) (fun _ _ _ _ _ _ hD k z => ⟨z.1.kp hD k, z.2⟩) (fun R r => ⟨.ref a, rfl, r⟩) (sq_l ha) hrs (by omega) (show 1 < 2 by decide) (fun D v x H' Q' hx hv k' hD q' => ?_) fun D ws H' nD hD hw k => q D ws H' nD hD (rwFr hw).1 (rwFr hw).2 k
    obtain ⟨r, us, rfl, hr2, hm⟩ := hv
    obtain ⟨ys, hD⟩ := hD
    try simp (maxSteps := 1000000) only [tSeq, tIfS, tTest, tOp, tUn, tCB, tCons, tNil, tVar, tC, rI0, rI, rU, rEq, rNe, tRet, tRetN, tAsg, gName, gSub, tBM, tBM0, tNext, tB, tNot, tAnd, tOr, tIf, tCall, tDrop, tBreak, tCont, L2.start, tDGet, sDPut, tTup, tLst, tDNewK, tRevL, rCat, rAppend, rPop, rSetL, tAndV, tOrV, tNotV, tSl, tPart, tNoPart, tM1, gTup, gCons, gNil, cxK, cxnK, List.map_cons, List.map_nil, List.length_cons, List.length_nil, List.replicate, List.cons_append, List.nil_append, List.append_nil, List.set_cons_zero, List.set_cons_succ, List.getElem?_cons_zero, List.getElem?_cons_succ, Option.some.injEq, V.ref.injEq, V.int.injEq, V.str.injEq, V.bl.injEq, V.ty.injEq, exists_eq_left', exists_eq_left, exists_and_left, List.cons.injEq, and_true, true_and, sc_ii, sc_ss, sc_bb, sc_ni, sc_in, sc_is, sc_si, sc_nn, decide_true, decide_false, reduceCtorEq, Bool.false_eq_true, if_true, if_false, ite_true, ite_false, exists_const, eq_self, false_and, and_false, or_false, false_or, exists_false, Evl.rLenS, rSum, wipe, tYes, exists_eq, exists_eq', rIxL, rIxT, rIxS, exists_and_right, gt_iff_lt, not_true_eq_false, not_false_eq_true, Bool.not_true, Bool.not_false, decide_eq_true_eq, Nat.reduceSub, Nat.reduceAdd, List.append_assoc, tChain, tDIn, tDNotIn, sDDel, tAug, ipI, rInt1_int, rInt1_bl]
    refine ⟨r, us, rfl, .inl (sq_l hr2), fun l nl => ?_⟩
    exact q' _ _ ⟨⟨l, us, rfl, (fun z => by rw [z, hD] at nl; cases nl), upd_same, rwTM hm (Kp.new nl).tps⟩, l, rfl, k'.free0 nl⟩ (Kp.new nl)
theorem Rw.drop {α : Type} {R : V → α → Prop} {us : List V} {gs : List α} (h : Rw R us gs) (n : Nat) : Rw R (us.drop n) (gs.drop n) := ⟨by simp [h.len], fun {i x} e => by
  rw [List.getElem?_drop] at e ⊢
  exact h.get e⟩
/-- a good row of at most sixty moves -/
def G6 (b : Nat) (ms : List Mv) : Prop := GoodRw b ms ∧ ms.length ≤ 60
def spLMoves : Sp := fun vs H Q _ => ∃ (c : Int) (a : Addr) (b : Nat) (us : List V) (ds : List Dd), vs = [.int c, .ref a, .int (b : Nat)] ∧ 0 ≤ c ∧ 1 ≤ b ∧ b ≤ 100 ∧ H a = some (.lst us) ∧ Rw (TDv H) us ds ∧ MenuOk ds ∧ ∀ (l : Addr) (rs : List V) (ms : List Mv) H', H l = none → H' l = some (.lst rs) → Rw (TM H') rs ms → G6 b ms → Kp [] H H' → Q (.ref l) H'
theorem ok_law_moves {f : Addr} {fd : FuncData} (D : Df K mg "_law_moves" s_law_moves ["_law_cell_here", "_law_menu_here", "_law_size"] f fd) (T : BtG mg) {g1 : Addr} {gd1 : FuncData} (D_law_draws : Df K mg "_law_draws" s_law_draws ["_law_cell_here", "_law_spans"] g1 gd1) (G_law_draws : FnOk P w K mg base CX0 1 g1 gd1 ["_law_cell_here", "_law_spans"] (spDraws K)) : FnOk P w K mg base CX0 2 f fd ["_law_cell_here", "_law_menu_here", "_law_size"] spLMoves := by
  refine D.F.ok sc_law_moves (fun vs H Q E h => ?_) (fun cdv A outer s H vs Q E hr h => ?_)
  · obtain ⟨_, _, _, _, _, rfl, _⟩ := h
    rfl
  · obtain ⟨c, a, b, us, ds, rfl, c0, b1, b2, ha, hus, hm, q⟩ := h
    refine ⟨_, (pss_cons (ps_set (i := 3) sc_law_moves.nd rfl (Or.inl rfl) (pe_lst pa_nil))
      (pss_cons (ps_for PassesOwn.never rfl (pi_range1 rfl T.b_range (pa_cons (pe_callB (id := "len") (r := Evl.rLenS K) call_len_seq (by rfl) T.b_len PySem.boot_len (pa_cons (pv 1) pa_nil)) pa_nil)) (pg_name (i := 4) sc_law_moves.nd rfl (Or.inl rfl)) (pss_one (ps_set (i := 3) sc_law_moves.nd rfl (Or.inl rfl) (pe_op op_cat (pv 3) (pe_lst (pa_cons pe_int (pa_cons (pv 2) pa_nil)))))))
      (pss_cons (ps_set (i := 5) sc_law_moves.nd rfl (Or.inl rfl) (pe_call G_law_draws (hr.mono (by decide)) rfl D_law_draws.g D_law_draws.F.kp D_law_draws.b .nil pass0 (pa_cons (pv 0) (pa_cons (pe_op op_cat (pv 3) (pe_lst (pa_cons (pe_callB (id := "len") (r := Evl.rLenS K) call_len_seq (by rfl) T.b_len PySem.boot_len (pa_cons (pv 1) pa_nil)) (pa_cons pe_int pa_nil)))) pa_nil))))
      (pss_cons (ps_set (i := 6) sc_law_moves.nd rfl (Or.inl rfl) (pe_lst pa_nil))
      (pss_cons (ps_for PassesOwn.never rfl (pi_range1 rfl T.b_range (pa_cons (pe_callB (id := "len") (r := Evl.rLenS K) call_len_seq (by rfl) T.b_len PySem.boot_len (pa_cons (pv 1) pa_nil)) pa_nil)) (pg_name (i := 4) sc_law_moves.nd rfl (Or.inl rfl)) (pss_one (ps_if (pt_cmpR op_gt (pe_ix (r := rIxL K) ix_list (pv 5) (pe_op op_mul pe_int (pv 4)) (fun _ _ => rfl)) pe_int (nomark _)) (pss_one (ps_expr (pe_bm PySem.F.plainAttrs_list PySem.F.slot_list_append PySem.F.type_list_append mt_append (pv 6) (pa_cons (pe_tup (pa_cons (pe_ix (r := rIxL K) ix_list (pv 1) (pv 4) (fun _ _ => rfl)) (pa_cons (pe_ix (r := rIxL K) ix_list (pv 5) (pe_op op_add (pe_op op_mul pe_int (pv 4)) pe_int) (fun _ _ => rfl)) pa_nil))) pa_nil)))) pss_nil)))
      (pss_cons (ps_set (i := 7) sc_law_moves.nd rfl (Or.inl rfl) (pe_ix (r := rIxL K) ix_list (pv 5) (pe_callB (id := "len") (r := Evl.rLenS K) call_len_seq (by rfl) T.b_len PySem.boot_len (pa_cons (pv 3) pa_nil)) (fun _ _ => rfl)))
      (pss_cons (ps_set (i := 6) sc_law_moves.nd rfl (Or.inl rfl) (pe_op op_cat (pe_slice sl_list (pv 6) (po_some (pv 7)) po_none) (pe_slice sl_list (pv 6) po_none (po_some (pv 7)))))
      (pss_cons (ps_if (pt_cmpR op_eq (pe_ix (r := rIxL K) ix_list (pv 5) (pe_op op_add (pe_callB (id := "len") (r := Evl.rLenS K) call_len_seq (by rfl) T.b_len PySem.boot_len (pa_cons (pv 3) pa_nil)) pe_int) (fun _ _ => rfl)) pe_int (nomark _)) (pss_one (ps_set (i := 6) sc_law_moves.nd rfl (Or.inl rfl) (pe_revL (pv 6)))) pss_nil)
      (pss_one (ps_ret (pv 6))))))))))), ?_⟩
    try simp (maxSteps := 1000000) only [tSeq, tTest, tOp, tUn, tCB, tCons, tNil, tVar, tC, rI0, rI, rU, rEq, rNe, tRet, tRetN, tAsg, gName, gSub, tBM, tBM0, tNext, tB, tNot, tAnd, tOr, tIf, tCall, tDrop, tBreak, tCont, L2.start, tDGet, sDPut, tTup, tLst, tDNewK, tRevL, rCat, rAppend, rPop, rSetL, tAndV, tOrV, tNotV, tSl, tPart, tNoPart, tM1, gTup, gCons, gNil, cxK, cxnK, List.map_cons, List.map_nil, List.length_cons, List.length_nil, List.replicate, List.cons_append, List.nil_append, List.append_nil, List.set_cons_zero, List.set_cons_succ, List.getElem?_cons_zero, List.getElem?_cons_succ, Option.some.injEq, V.ref.injEq, V.int.injEq, V.str.injEq, V.bl.injEq, V.ty.injEq, exists_eq_left', exists_eq_left, exists_and_left, List.cons.injEq, and_true, true_and, sc_ii, sc_ss, sc_bb, sc_ni, sc_in, sc_is, sc_si, sc_nn, decide_true, decide_false, reduceCtorEq, Bool.false_eq_true, if_true, if_false, ite_true, ite_false, exists_const, eq_self, false_and, and_false, or_false, false_or, exists_false, Evl.rLenS, rSum, wipe, tYes, exists_eq, exists_eq', rIxL, rIxT, rIxS, exists_and_right, gt_iff_lt, not_true_eq_false, not_false_eq_true, Bool.not_true, Bool.not_false, decide_eq_true_eq, Nat.reduceSub, Nat.reduceAdd, List.append_assoc, tChain, tDIn, tDNotIn, sDDel, tAug, ipI, rInt1_int, rInt1_bl]
    refine ⟨Nat.zero_le _, fun p np => ?_⟩
    have kp := (Kp.new np : Kp [] H (upd H p (.lst [])))
    have lus : us.length = ds.length := hus.len
    have hhi := hm.hi
    have hlo := hm.lo
    refine forN ds.length (by omega) (fun j σ H' => ∃ (sp : Addr) (c4 : Option V), σ = [some (.int c), some (.ref a), some (.int (b : Nat)), some (.ref sp), c4, none, none, none] ∧ H' sp = some (.lst ((spansV (b : Nat) j).map V.int)) ∧ Kp [] H H') (fun R r => ?_) ⟨p, none, rfl, upd_same, kp⟩ (fun j σ H' hj h => ?_) fun σ H' h => ?_
    · try simp (maxSteps := 1000000) only [tSeq, tIfS, tTest, tOp, tUn, tCB, tCons, tNil, tVar, tC, rI0, rI, rU, rEq, rNe, tRet, tRetN, tAsg, gName, gSub, tBM, tBM0, tNext, tB, tNot, tAnd, tOr, tIf, tCall, tDrop, tBreak, tCont, L2.start, tDGet, sDPut, tTup, tLst, tDNewK, tRevL, rCat, rAppend, rPop, rSetL, tAndV, tOrV, tNotV, tSl, tPart, tNoPart, tM1, gTup, gCons, gNil, cxK, cxnK, List.map_cons, List.map_nil, List.length_cons, List.length_nil, List.replicate, List.cons_append, List.nil_append, List.append_nil, List.set_cons_zero, List.set_cons_succ, List.getElem?_cons_zero, List.getElem?_cons_succ, Option.some.injEq, V.ref.injEq, V.int.injEq, V.str.injEq, V.bl.injEq, V.ty.injEq, exists_eq_left', exists_eq_left, exists_and_left, List.cons.injEq, and_true, true_and, sc_ii, sc_ss, sc_bb, sc_ni, sc_in, sc_is, sc_si, sc_nn, decide_true, decide_false, reduceCtorEq, Bool.false_eq_true, if_true, if_false, ite_true, ite_false, exists_const, eq_self, false_and, and_false, or_false, false_or, exists_false, Evl.rLenS, rSum, wipe, tYes, exists_eq, exists_eq', rIxL, rIxT, rIxS, exists_and_right, gt_iff_lt, not_true_eq_false, not_false_eq_true, Bool.not_true, Bool.not_false, decide_eq_true_eq, Nat.reduceSub, Nat.reduceAdd, List.append_assoc, tChain, tDIn, tDNotIn, sDDel, tAug, ipI, rInt1_int, rInt1_bl]
      exact ⟨_, .inl (sq_l (kp _ _ not0 ha)), by rw [lus]; exact r⟩
    · obtain ⟨sp, c4, rfl, hsp, k2⟩ := h
      try simp (maxSteps := 1000000) only [tSeq, tIfS, tTest, tOp, tUn, tCB, tCons, tNil, tVar, tC, rI0, rI, rU, rEq, rNe, tRet, tRetN, tAsg, gName, gSub, tBM, tBM0, tNext, tB, tNot, tAnd, tOr, tIf, tCall, tDrop, tBreak, tCont, L2.start, tDGet, sDPut, tTup, tLst, tDNewK, tRevL, rCat, rAppend, rPop, rSetL, tAndV, tOrV, tNotV, tSl, tPart, tNoPart, tM1, gTup, gCons, gNil, cxK, cxnK, List.map_cons, List.map_nil, List.length_cons, List.length_nil, List.replicate, List.cons_append, List.nil_append, List.append_nil, List.set_cons_zero, List.set_cons_succ, List.getElem?_cons_zero, List.getElem?_cons_succ, Option.some.injEq, V.ref.injEq, V.int.injEq, V.str.injEq, V.bl.injEq, V.ty.injEq, exists_eq_left', exists_eq_left, exists_and_left, List.cons.injEq, and_true, true_and, sc_ii, sc_ss, sc_bb, sc_ni, sc_in, sc_is, sc_si, sc_nn, decide_true, decide_false, reduceCtorEq, Bool.false_eq_true, if_true, if_false, ite_true, ite_false, exists_const, eq_self, false_and, and_false, or_false, false_or, exists_false, Evl.rLenS, rSum, wipe, tYes, exists_eq, exists_eq', rIxL, rIxT, rIxS, exists_and_right, gt_iff_lt, not_true_eq_false, not_false_eq_true, Bool.not_true, Bool.not_false, decide_eq_true_eq, Nat.reduceSub, Nat.reduceAdd, List.append_assoc, tChain, tDIn, tDNotIn, sDDel, tAug, ipI, rInt1_int, rInt1_bl]
      refine ⟨by rw [sizeLine_eq]; decide, fun p1 np1 => ?_⟩
      have kq := (Kp.new np1 : Kp [] H' (upd H' p1 (.lst [.int 3, .int (b : Nat)])))
      refine ⟨_, kq _ _ not0 hsp, _, upd_same, ?_, fun r nr => ⟨?_, (k2.trans kq).trans (Kp.new nr)⟩⟩
      · rw [List.length_map, spansV_len, sizeLine_eq]
        show 2 * j + 2 ≤ _
        omega
      · rw [upd_same, show spansV (b : Nat) (j + 1) = spansV (b : Nat) j ++ ([3, (b : Nat)] : List Int) from rfl, List.map_append]; rfl
    · obtain ⟨sp, c4, rfl, hsp, k2⟩ := h
      have ha2 := k2 _ _ not0 ha
      try simp (maxSteps := 1000000) only [tSeq, tTest, tOp, tUn, tCB, tCons, tNil, tVar, tC, rI0, rI, rU, rEq, rNe, tRet, tRetN, tAsg, gName, gSub, tBM, tBM0, tNext, tB, tNot, tAnd, tOr, tIf, tCall, tDrop, tBreak, tCont, L2.start, tDGet, sDPut, tTup, tLst, tDNewK, tRevL, rCat, rAppend, rPop, rSetL, tAndV, tOrV, tNotV, tSl, tPart, tNoPart, tM1, gTup, gCons, gNil, cxK, cxnK, List.map_cons, List.map_nil, List.length_cons, List.length_nil, List.replicate, List.cons_append, List.nil_append, List.append_nil, List.set_cons_zero, List.set_cons_succ, List.getElem?_cons_zero, List.getElem?_cons_succ, Option.some.injEq, V.ref.injEq, V.int.injEq, V.str.injEq, V.bl.injEq, V.ty.injEq, exists_eq_left', exists_eq_left, exists_and_left, List.cons.injEq, and_true, true_and, sc_ii, sc_ss, sc_bb, sc_ni, sc_in, sc_is, sc_si, sc_nn, decide_true, decide_false, reduceCtorEq, Bool.false_eq_true, if_true, if_false, ite_true, ite_false, exists_const, eq_self, false_and, and_false, or_false, false_or, exists_false, Evl.rLenS, rSum, wipe, tYes, exists_eq, exists_eq', rIxL, rIxT, rIxS, exists_and_right, gt_iff_lt, not_true_eq_false, not_false_eq_true, Bool.not_true, Bool.not_false, decide_eq_true_eq, Nat.reduceSub, Nat.reduceAdd, List.append_assoc, tChain, tDIn, tDNotIn, sDDel, tAug, ipI, rInt1_int, rInt1_bl]
      refine ⟨_, .inl (sq_l ha2), by rw [sizeLine_eq]; decide, fun p1 np1 => ?_⟩
      rw [lus]
      have kq := (Kp.new np1 : Kp [] H' (upd H' p1 (.lst [.int (ds.length : Nat), .int 2])))
      refine ⟨_, kq _ _ not0 hsp, _, upd_same, ?_, fun p2 np2 => ?_⟩
      · rw [List.length_map, spansV_len, sizeLine_eq]
        show 2 * ds.length + 2 ≤ _
        omega
      have kr := (Kp.new np2 : Kp [] (upd H' p1 (.lst [.int (ds.length : Nat), .int 2])) (upd (upd H' p1 (.lst [.int (ds.length : Nat), .int 2])) p2 (.lst ((spansV (b : Nat) ds.length).map V.int ++ [.int (ds.length : Nat), .int 2]))))
      have hq : (upd (upd H' p1 (.lst [.int (ds.length : Nat), .int 2])) p2 (.lst ((spansV (b : Nat) ds.length).map V.int ++ [.int (ds.length : Nat), .int 2]))) p2 = some (.lst ((spansV (b : Nat) ds.length ++ [((ds.length : Nat) : Int), 2]).map V.int)) := by rw [upd_same, List.map_append]; rfl
      generalize upd (upd H' p1 (.lst [.int (ds.length : Nat), .int 2])) p2 (.lst ((spansV (b : Nat) ds.length).map V.int ++ [.int (ds.length : Nat), .int 2])) = H2 at kr hq
      have k02 := (k2.trans kq).trans kr
      have sl := spansV_len (b := ((b : Nat) : Int)) ds.length
      refine ⟨c, p2, _, rfl, c0, sq_l hq, by rw [List.length_append, sl]; show 2 * ds.length + 2 ≤ _; omega, fun x hx => ?_, fun dr dl H3 nd hdl dlen hdr k3 => ⟨Nat.zero_le _, fun mv nmv => ?_⟩⟩
      · rcases List.mem_append.mp hx with h | h
        · exact spansV_pos (by omega) x h
        · simp at h
          rcases h with rfl | rfl <;> omega
      have k03 := k02.trans k3
      have hsp3 := ((kq.trans kr).trans k3) _ _ not0 hsp
      have ha3 := k03 _ _ not0 ha
      have hus3 : Rw (TDv H3) us ds := hus.mono fun _ _ z => z.tp k03.tps
      have kmv := (Kp.new nmv : Kp [] H3 (upd H3 mv (.lst [])))
      refine forN ds.length (by omega) (fun j σ G => ∃ (ms : List Mv) (vs : List V) (c4 : Option V), σ = [some (.int c), some (.ref a), some (.int (b : Nat)), some (.ref sp), c4, some (.ref dl), some (.ref mv), none] ∧ G mv = some (.lst vs) ∧ Rw (TM G) vs ms ∧ MsI b j ms ∧ (∀ m ∈ ms, ∃ i, i < j ∧ ds[i]? = some m.1) ∧ Kp [] H3 G) (fun R r => ?_) ⟨[], [], _, rfl, upd_same, .nil, ⟨fun x h => (nomatch h), fun x h => (nomatch h), List.nodup_nil, Nat.le_refl _⟩, fun m h => (nomatch h), kmv⟩ (fun j σ G hj h => ?_) fun σ G h => ?_
      · try simp (maxSteps := 1000000) only [tSeq, tIfS, tTest, tOp, tUn, tCB, tCons, tNil, tVar, tC, rI0, rI, rU, rEq, rNe, tRet, tRetN, tAsg, gName, gSub, tBM, tBM0, tNext, tB, tNot, tAnd, tOr, tIf, tCall, tDrop, tBreak, tCont, L2.start, tDGet, sDPut, tTup, tLst, tDNewK, tRevL, rCat, rAppend, rPop, rSetL, tAndV, tOrV, tNotV, tSl, tPart, tNoPart, tM1, gTup, gCons, gNil, cxK, cxnK, List.map_cons, List.map_nil, List.length_cons, List.length_nil, List.replicate, List.cons_append, List.nil_append, List.append_nil, List.set_cons_zero, List.set_cons_succ, List.getElem?_cons_zero, List.getElem?_cons_succ, Option.some.injEq, V.ref.injEq, V.int.injEq, V.str.injEq, V.bl.injEq, V.ty.injEq, exists_eq_left', exists_eq_left, exists_and_left, List.cons.injEq, and_true, true_and, sc_ii, sc_ss, sc_bb, sc_ni, sc_in, sc_is, sc_si, sc_nn, decide_true, decide_false, reduceCtorEq, Bool.false_eq_true, if_true, if_false, ite_true, ite_false, exists_const, eq_self, false_and, and_false, or_false, false_or, exists_false, Evl.rLenS, rSum, wipe, tYes, exists_eq, exists_eq', rIxL, rIxT, rIxS, exists_and_right, gt_iff_lt, not_true_eq_false, not_false_eq_true, Bool.not_true, Bool.not_false, decide_eq_true_eq, Nat.reduceSub, Nat.reduceAdd, List.append_assoc, tChain, tDIn, tDNotIn, sDDel, tAug, ipI, rInt1_int, rInt1_bl]
        exact ⟨_, .inl (sq_l (kmv _ _ not0 ha3)), by rw [lus]; exact r⟩
      · obtain ⟨ms, vs, c4, rfl, hv, hms, hI, hin, kG⟩ := h
        have hdlG := kG _ _ not0 hdl
        obtain ⟨s1, s2⟩ := spansV_at (b := ((b : Nat) : Int)) hj
        obtain ⟨x1, ex1, x10, x11⟩ := dr_at dlen hdr (i := 2 * j) (s := 3) (by rw [List.getElem?_append_left (by omega)]; exact s1)
        obtain ⟨x2, ex2, x20, x21⟩ := dr_at dlen hdr (i := 2 * j + 1) (s := ((b : Nat) : Int)) (by rw [List.getElem?_append_left (by omega)]; exact s2)
        rw [show ((2 * j : Nat) : Int) = 2 * (j : Int) by omega] at ex1
        rw [show ((2 * j + 1 : Nat) : Int) = 2 * (j : Int) + 1 by omega] at ex2
        try simp (maxSteps := 1000000) only [tSeq, tIfS, tTest, tOp, tUn, tCB, tCons, tNil, tVar, tC, rI0, rI, rU, rEq, rNe, tRet, tRetN, tAsg, gName, gSub, tBM, tBM0, tNext, tB, tNot, tAnd, tOr, tIf, tCall, tDrop, tBreak, tCont, L2.start, tDGet, sDPut, tTup, tLst, tDNewK, tRevL, rCat, rAppend, rPop, rSetL, tAndV, tOrV, tNotV, tSl, tPart, tNoPart, tM1, gTup, gCons, gNil, cxK, cxnK, List.map_cons, List.map_nil, List.length_cons, List.length_nil, List.replicate, List.cons_append, List.nil_append, List.append_nil, List.set_cons_zero, List.set_cons_succ, List.getElem?_cons_zero, List.getElem?_cons_succ, Option.some.injEq, V.ref.injEq, V.int.injEq, V.str.injEq, V.bl.injEq, V.ty.injEq, exists_eq_left', exists_eq_left, exists_and_left, List.cons.injEq, and_true, true_and, sc_ii, sc_ss, sc_bb, sc_ni, sc_in, sc_is, sc_si, sc_nn, decide_true, decide_false, reduceCtorEq, Bool.false_eq_true, if_true, if_false, ite_true, ite_false, exists_const, eq_self, false_and, and_false, or_false, false_or, exists_false, Evl.rLenS, rSum, wipe, tYes, exists_eq, exists_eq', rIxL, rIxT, rIxS, exists_and_right, gt_iff_lt, not_true_eq_false, not_false_eq_true, Bool.not_true, Bool.not_false, decide_eq_true_eq, Nat.reduceSub, Nat.reduceAdd, List.append_assoc, tChain, tDIn, tDNotIn, sDDel, tAug, ipI, rInt1_int, rInt1_bl]
        have c2 : CMul 2 (j : Int) := .inl ⟨by decide, by decide⟩
        refine ⟨c2, _, sq_l hdlG, _, ex1, x1, rfl, ?_⟩
        refine ite2 (fun h1 => ?_) (fun h1 => ?_)
        · have ed : ds[j]? = some ds[j] := List.getElem?_eq_getElem hj
          obtain ⟨u, eu, t, rfl, ht⟩ := hus3.at ed
          have gd := hm.good ds[j] (List.getElem_mem hj)
          have nin : ds[j] ∉ ms.map (·.1) := fun z => by
            obtain ⟨m, hm2, em⟩ := List.mem_map.mp z
            have em : m.1 = ds[j] := em
            obtain ⟨i, hi, ei⟩ := hin m hm2
            have := List.pairwise_iff_getElem.mp (List.nodup_iff_pairwise_ne.mp hm.nd) i j (by omega) hj hi
            rw [em] at ei
            exact this (List.getElem?_eq_some_iff.mp ei).2
          generalize hdj : ds[j] = d at ed ht gd nin
          refine ⟨.inl ⟨rfl, _, sq_l hv⟩, _, sq_l ((kG) _ _ not0 ha3), _, atI_nat eu, c2, _, sq_l hdlG, _, ex2, by rw [sizeLine_eq]; decide, fun p np => ?_⟩
          have kp2 := (Kp.new np : Kp [] G (upd G p (.tup [.ref t, .int x2])))
          have hp : (upd G p (.tup [.ref t, .int x2])) p = some (.tup [.ref t, .int x2]) := upd_same
          generalize upd G p (.tup [.ref t, .int x2]) = G6 at kp2 hp
          have hv6 := kp2 _ _ not0 hv
          have tp : Tp G6 (upd G6 mv (.lst (vs ++ [.ref p]))) := (Tp.refl G6).putL hv6
          have nw : TM G6 (.ref p) (d, x2) := ⟨p, t, rfl, hp, (kG.trans kp2).tps _ _ ht⟩
          have hl := hI.len
          refine ⟨vs, hv6, by rw [hms.len, sizeLine_eq]; omega, ms ++ [(d, x2)], _, upd_same, (rwTM (rwTM hms kp2.tps) tp).snoc (nw.tp tp), hI.put gd nin x20 x21, fun m hm2 => ?_, (kG.trans kp2).wr nmv⟩
          rcases List.mem_append.mp hm2 with h | h
          · obtain ⟨i, hi, ei⟩ := hin m h
            exact ⟨i, by omega, ei⟩
          · rw [List.mem_singleton.mp h]
            exact ⟨j, by omega, ed⟩
        · exact ⟨ms, vs, hv, hms, ⟨hI.deed, hI.goal, hI.uniq, by have := hI.len; omega⟩, fun m hm2 => by
            obtain ⟨i, hi, ei⟩ := hin m hm2
            exact ⟨i, by omega, ei⟩, kG⟩
      · obtain ⟨ms, vs, c4, rfl, hv, hms, hI, hin, kG⟩ := h
        have hdlG := kG _ _ not0 hdl
        have hspG := kG _ _ not0 hsp3
        try simp (maxSteps := 1000000) only [tSeq, tTest, tOp, tUn, tCB, tCons, tNil, tVar, tC, rI0, rI, rU, rEq, rNe, tRet, tRetN, tAsg, gName, gSub, tBM, tBM0, tNext, tB, tNot, tAnd, tOr, tIf, tCall, tDrop, tBreak, tCont, L2.start, tDGet, sDPut, tTup, tLst, tDNewK, tRevL, rCat, rAppend, rPop, rSetL, tAndV, tOrV, tNotV, tSl, tPart, tNoPart, tM1, gTup, gCons, gNil, cxK, cxnK, List.map_cons, List.map_nil, List.length_cons, List.length_nil, List.replicate, List.cons_append, List.nil_append, List.append_nil, List.set_cons_zero, List.set_cons_succ, List.getElem?_cons_zero, List.getElem?_cons_succ, Option.some.injEq, V.ref.injEq, V.int.injEq, V.str.injEq, V.bl.injEq, V.ty.injEq, exists_eq_left', exists_eq_left, exists_and_left, List.cons.injEq, and_true, true_and, sc_ii, sc_ss, sc_bb, sc_ni, sc_in, sc_is, sc_si, sc_nn, decide_true, decide_false, reduceCtorEq, Bool.false_eq_true, if_true, if_false, ite_true, ite_false, exists_const, eq_self, false_and, and_false, or_false, false_or, exists_false, Evl.rLenS, rSum, wipe, tYes, exists_eq, exists_eq', rIxL, rIxT, rIxS, exists_and_right, gt_iff_lt, not_true_eq_false, not_false_eq_true, Bool.not_true, Bool.not_false, decide_eq_true_eq, Nat.reduceSub, Nat.reduceAdd, List.append_assoc, tChain, tDIn, tDNotIn, sDDel, tAug, ipI, rInt1_int, rInt1_bl]
        obtain ⟨st, est, st0, st1⟩ := dr_at dlen hdr (i := 2 * ds.length) (s := ((ds.length : Nat) : Int)) (by rw [List.getElem?_append_right (by omega), sl, Nat.sub_self]; rfl)
        obtain ⟨fl, efl, fl0, fl1⟩ := dr_at dlen hdr (i := 2 * ds.length + 1) (s := 2) (by rw [List.getElem?_append_right (by omega), sl, show 2 * ds.length + 1 - 2 * ds.length = 1 by omega]; rfl)
        obtain ⟨sn, rfl⟩ := Int.eq_ofNat_of_zero_le st0
        have hl := hI.len
        refine ⟨_, .inl (sq_l hspG), _, sq_l hdlG, _, by rw [List.length_map, sl]; exact est, _, rfl, mv, vs, rfl, sq_l hv, fun q1 nq1 => ?_⟩
        rw [cut_from]
        have kq1 := (Kp.new nq1 : Kp [] G (upd G q1 (.lst (vs.drop sn))))
        have hq1 : (upd G q1 (.lst (vs.drop sn))) q1 = some (.lst (vs.drop sn)) := upd_same
        generalize upd G q1 (.lst (vs.drop sn)) = G1 at kq1 hq1
        refine ⟨_, rfl, mv, vs, rfl, sq_l (kq1 _ _ not0 hv), fun q2 nq2 => ?_⟩
        rw [cut_to]
        have kq2 := (Kp.new nq2 : Kp [] G1 (upd G1 q2 (.lst (vs.take sn))))
        have hq2 : (upd G1 q2 (.lst (vs.take sn))) q2 = some (.lst (vs.take sn)) := upd_same
        generalize upd G1 q2 (.lst (vs.take sn)) = G2 at kq2 hq2
        have lv : vs.length = ms.length := hms.len
        refine ⟨q1, rfl, q2, rfl, _, kq2 _ _ not0 hq1, _, hq2, by rw [List.length_drop, List.length_take, sizeLine_eq]; omega, fun q3 nq3 => ?_⟩
        have kq3 := (Kp.new nq3 : Kp [] G2 (upd G2 q3 (.lst (vs.drop sn ++ vs.take sn))))
        have hq3 : (upd G2 q3 (.lst (vs.drop sn ++ vs.take sn))) q3 = some (.lst (vs.drop sn ++ vs.take sn)) := upd_same
        generalize upd G2 q3 (.lst (vs.drop sn ++ vs.take sn)) = G3 at kq3 hq3
        have kG3 := ((kq1.trans kq2).trans kq3)
        have k3G3 := kG.trans kG3
        have perm : (ms.drop sn ++ ms.take sn).Perm ms := List.perm_append_comm.trans (by rw [List.take_append_drop])
        have gms : GoodRw b (ms.drop sn ++ ms.take sn) := (GoodRw.of hI (by omega)).perm perm
        have l60 : (ms.drop sn ++ ms.take sn).length ≤ 60 := by
          rw [perm.length_eq]; have := hI.len; omega
        have hR : Rw (TM G3) (vs.drop sn ++ vs.take sn) (ms.drop sn ++ ms.take sn) := rwTM ((hms.drop sn).app (hms.take sn)) kG3.tps
        have nq0 : H q3 = none := (k03.trans (kG.trans (kq1.trans kq2))).free0 nq3
        try simp (maxSteps := 1000000) only [tSeq, tIfS, tTest, tOp, tUn, tCB, tCons, tNil, tVar, tC, rI0, rI, rU, rEq, rNe, tRet, tRetN, tAsg, gName, gSub, tBM, tBM0, tNext, tB, tNot, tAnd, tOr, tIf, tCall, tDrop, tBreak, tCont, L2.start, tDGet, sDPut, tTup, tLst, tDNewK, tRevL, rCat, rAppend, rPop, rSetL, tAndV, tOrV, tNotV, tSl, tPart, tNoPart, tM1, gTup, gCons, gNil, cxK, cxnK, List.map_cons, List.map_nil, List.length_cons, List.length_nil, List.replicate, List.cons_append, List.nil_append, List.append_nil, List.set_cons_zero, List.set_cons_succ, List.getElem?_cons_zero, List.getElem?_cons_succ, Option.some.injEq, V.ref.injEq, V.int.injEq, V.str.injEq, V.bl.injEq, V.ty.injEq, exists_eq_left', exists_eq_left, exists_and_left, List.cons.injEq, and_true, true_and, sc_ii, sc_ss, sc_bb, sc_ni, sc_in, sc_is, sc_si, sc_nn, decide_true, decide_false, reduceCtorEq, Bool.false_eq_true, if_true, if_false, ite_true, ite_false, exists_const, eq_self, false_and, and_false, or_false, false_or, exists_false, Evl.rLenS, rSum, wipe, tYes, exists_eq, exists_eq', rIxL, rIxT, rIxS, exists_and_right, gt_iff_lt, not_true_eq_false, not_false_eq_true, Bool.not_true, Bool.not_false, decide_eq_true_eq, Nat.reduceSub, Nat.reduceAdd, List.append_assoc, tChain, tDIn, tDNotIn, sDDel, tAug, ipI, rInt1_int, rInt1_bl]
        refine ⟨_, .inl (sq_l (k3G3 _ _ not0 hsp3)), _, sq_l (k3G3 _ _ not0 hdl), _, by rw [List.length_map, sl, show ((2 * ds.length : Nat) : Int) + 1 = ((2 * ds.length + 1 : Nat) : Int) by omega]; exact efl, rfl, ?_⟩
        refine ite2 (fun h1 => ?_) (fun h1 => ?_)
        · try simp (maxSteps := 1000000) only [tSeq, tIfS, tTest, tOp, tUn, tCB, tCons, tNil, tVar, tC, rI0, rI, rU, rEq, rNe, tRet, tRetN, tAsg, gName, gSub, tBM, tBM0, tNext, tB, tNot, tAnd, tOr, tIf, tCall, tDrop, tBreak, tCont, L2.start, tDGet, sDPut, tTup, tLst, tDNewK, tRevL, rCat, rAppend, rPop, rSetL, tAndV, tOrV, tNotV, tSl, tPart, tNoPart, tM1, gTup, gCons, gNil, cxK, cxnK, List.map_cons, List.map_nil, List.length_cons, List.length_nil, List.replicate, List.cons_append, List.nil_append, List.append_nil, List.set_cons_zero, List.set_cons_succ, List.getElem?_cons_zero, List.getElem?_cons_succ, Option.some.injEq, V.ref.injEq, V.int.injEq, V.str.injEq, V.bl.injEq, V.ty.injEq, exists_eq_left', exists_eq_left, exists_and_left, List.cons.injEq, and_true, true_and, sc_ii, sc_ss, sc_bb, sc_ni, sc_in, sc_is, sc_si, sc_nn, decide_true, decide_false, reduceCtorEq, Bool.false_eq_true, if_true, if_false, ite_true, ite_false, exists_const, eq_self, false_and, and_false, or_false, false_or, exists_false, Evl.rLenS, rSum, wipe, tYes, exists_eq, exists_eq', rIxL, rIxT, rIxS, exists_and_right, gt_iff_lt, not_true_eq_false, not_false_eq_true, Bool.not_true, Bool.not_false, decide_eq_true_eq, Nat.reduceSub, Nat.reduceAdd, List.append_assoc, tChain, tDIn, tDNotIn, sDDel, tAug, ipI, rInt1_int, rInt1_bl, tRevL]
          refine ⟨_, sq_l hq3, fun q4 nq4 => ?_⟩
          have kq4 := (Kp.new nq4 : Kp [] G3 (upd G3 q4 (.lst (vs.drop sn ++ vs.take sn).reverse)))
          exact q q4 _ _ _ ((k03.trans k3G3).free0 nq4) upd_same (rwTM (rwRev hR) kq4.tps) ⟨gms.perm (List.reverse_perm _), by rw [List.length_reverse]; exact l60⟩ ((k03.trans k3G3).trans kq4)
        · exact q q3 _ _ _ nq0 hq3 hR ⟨gms, l60⟩ (k03.trans k3G3)
end
end My

set_option Elab.async false
set_option linter.all false
set_option maxRecDepth 100000
set_option maxHeartbeats 4000000
namespace My
open PySem L2 NdefX
abbrev s_law_all : Stmt := top 24
theorem sc_law_all : FnScope ["_law_cell_here", "_law_size", "_law_draws_here", "_law_stride", "_law_moves_here", "_law_k", "_law_at"] ["_law_cell_here", "_law_size"] (defScope s_law_all) := ⟨rfl, rfl, rfl, by decide +kernel, rfl, by decide +kernel, by decide +kernel⟩
abbrev s_law_rows : Stmt := top 25
theorem sc_law_rows : FnScope ["_law_script", "_law_menu_here", "_law_wide", "_law_size", "_law_rows_here", "_law_k"] ["_law_script", "_law_menu_here", "_law_wide", "_law_size"] (defScope s_law_rows) := ⟨rfl, rfl, rfl, by decide +kernel, rfl, by decide +kernel, by decide +kernel⟩
def strideL : List Int := [1, 7, 11, 13, 31, 59]
def wordA (x : Int) : Str := if x / 10 % 2 = 0 then "return" else "step"
def deedA (x : Int) : Dd := (x / 20, wordA x, .inl (x % 10))
theorem deedA_good {x : Int} (h0 : 0 ≤ x) (h1 : x < 60) : GoodDd (deedA x) := by
  refine ⟨by show 0 ≤ x / 20; omega, by show x / 20 < 3; omega, .inr ⟨?_, x % 10, rfl, by omega, by omega⟩⟩
  show wordA x = "return" ∨ wordA x = "step"
  unfold wordA
  split
  · exact .inl rfl
  · exact .inr rfl
theorem deedA_inj {x y : Int} (h0 : 0 ≤ x) (h1 : x < 60) (g0 : 0 ≤ y) (g1 : y < 60) (h : deedA x = deedA y) : x = y := by
  unfold deedA at h
  injection h with e1 h
  injection h with e2 e3
  injection e3 with e3
  have e4 : x / 10 % 2 = y / 10 % 2 := by
    unfold wordA at e2
    by_cases a : x / 10 % 2 = 0
    · by_cases b : y / 10 % 2 = 0
      · omega
      · rw [if_pos a, if_neg b] at e2
        exact absurd e2 (by decide +kernel)
    · by_cases b : y / 10 % 2 = 0
      · rw [if_neg a, if_pos b] at e2
        exact absurd e2 (by decide +kernel)
      · omega
  omega
theorem stride_ok : ∀ i : Nat, i < 6 → ∃ s : Nat, strideL[i]? = some (s : Int) ∧ s < 60 ∧ ∀ m : Nat, m < 60 → 0 < m → m * s % 60 ≠ 0 := by
  intro i h
  match i, h with
  | 0, _ => exact ⟨1, rfl, by decide, by decide⟩
  | 1, _ => exact ⟨7, rfl, by decide, by decide⟩
  | 2, _ => exact ⟨11, rfl, by decide, by decide⟩
  | 3, _ => exact ⟨13, rfl, by decide, by decide⟩
  | 4, _ => exact ⟨31, rfl, by decide, by decide⟩
  | 5, _ => exact ⟨59, rfl, by decide, by decide⟩
def mvA (d0 s d2 b : Int) (i : Nat) : Mv := (deedA ((d0 + (i : Nat) * s) % 60), (d2 + (i : Nat)) % b)
theorem mvA_good {d0 d2 : Int} {s b : Nat} (hs : ∀ m : Nat, m < 60 → 0 < m → m * s % 60 ≠ 0) (b1 : 1 ≤ b) : GoodRw b ((List.range 60).map (mvA d0 s d2 b)) := by
  have z : ∀ i : Nat, 0 ≤ (d0 + (i : Nat) * (s : Int)) % 60 ∧ (d0 + (i : Nat) * (s : Int)) % 60 < 60 := fun i => ⟨Int.emod_nonneg _ (by decide), Int.emod_lt_of_pos _ (by decide)⟩
  refine ⟨fun m hm => ?_, fun m hm => ?_, ?_, by rw [List.length_map, List.length_range]; decide⟩
  · obtain ⟨i, _, rfl⟩ := List.mem_map.mp hm
    exact deedA_good (z i).1 (z i).2
  · obtain ⟨i, _, rfl⟩ := List.mem_map.mp hm
    exact ⟨Int.emod_nonneg _ (by omega), Int.emod_lt_of_pos _ (by omega)⟩
  · rw [List.map_map, List.nodup_iff_pairwise_ne, List.pairwise_map]
    refine List.pairwise_lt_range.imp_of_mem fun {i j} hi hj lt e => ?_
    have hj := List.mem_range.mp hj
    have e : deedA ((d0 + (i : Nat) * (s : Int)) % 60) = deedA ((d0 + (j : Nat) * (s : Int)) % 60) := e
    have e := deedA_inj (z i).1 (z i).2 (z j).1 (z j).2 e
    have : ((j - i) * s) % 60 = 0 := by
      have hd : (((j - i : Nat) : Int) * (s : Int)) % 60 = 0 := by
        have e2 : ((d0 + (j : Nat) * (s : Int)) - (d0 + (i : Nat) * (s : Int))) % 60 = 0 := Int.emod_eq_zero_of_dvd (Int.dvd_of_emod_eq_zero (by rw [Int.sub_emod, e, Int.sub_self]; rfl))
        have e3 : ((j - i : Nat) : Int) = (j : Int) - (i : Int) := by omega
        rw [e3, Int.sub_mul]
        have e4 : (j : Int) * (s : Int) - (i : Int) * (s : Int) = (d0 + (j : Nat) * (s : Int)) - (d0 + (i : Nat) * (s : Int)) := by omega
        rw [e4]; exact e2
      have := hd
      rw [← Int.natCast_mul] at this
      omega
    exact hs (j - i) (by omega) (by omega) this
section
variable {P : Program} {w : World} {K : PySem.W.Frag} {mg : Str → Option Value} {base : Heap} {t1 : Tok}
def spLAll : Sp := fun vs H Q _ => ∃ (c : Int) (b : Nat), vs = [.int c, .int (b : Nat)] ∧ 0 ≤ c ∧ 1 ≤ b ∧ b ≤ 100 ∧ ∀ (l : Addr) (rs : List V) (ms : List Mv) H', H l = none → H' l = some (.lst rs) → Rw (TM H') rs ms → G6 b ms → Kp [] H H' → Q (.ref l) H'
theorem ok_law_all {f : Addr} {fd : FuncData} (D : Df K mg "_law_all" s_law_all ["_law_cell_here", "_law_size"] f fd) (T : BtG mg) {g1 : Addr} {gd1 : FuncData} (D_law_draws : Df K mg "_law_draws" s_law_draws ["_law_cell_here", "_law_spans"] g1 gd1) (G_law_draws : FnOk P w K mg base CX0 1 g1 gd1 ["_law_cell_here", "_law_spans"] (spDraws K)) : FnOk P w K mg base CX0 2 f fd ["_law_cell_here", "_law_size"] spLAll := by
  refine D.F.ok sc_law_all (fun vs H Q E h => ?_) (fun cdv A outer s H vs Q E hr h => ?_)
  · obtain ⟨_, _, rfl, _⟩ := h
    rfl
  · obtain ⟨c, b, rfl, c0, b1, b2, q⟩ := h
    refine ⟨_, (pss_cons (ps_set (i := 2) sc_law_all.nd rfl (Or.inl rfl) (pe_call G_law_draws (hr.mono (by decide)) rfl D_law_draws.g D_law_draws.F.kp D_law_draws.b .nil pass0 (pa_cons (pv 0) (pa_cons (pe_lst (pa_cons pe_int (pa_cons pe_int (pa_cons (pv 1) pa_nil)))) pa_nil))))
      (pss_cons (ps_set (i := 3) sc_law_all.nd rfl (Or.inl rfl) (pe_ix (r := rIxL K) ix_list (pe_lst (pa_cons pe_int (pa_cons pe_int (pa_cons pe_int (pa_cons pe_int (pa_cons pe_int (pa_cons pe_int pa_nil))))))) (pe_ix (r := rIxL K) ix_list (pv 2) pe_int (fun _ _ => rfl)) (fun _ _ => rfl)))
      (pss_cons (ps_set (i := 4) sc_law_all.nd rfl (Or.inl rfl) (pe_lst pa_nil))
      (pss_cons (ps_for PassesOwn.never rfl (pi_range1 rfl T.b_range (pa_cons pe_int pa_nil)) (pg_name (i := 5) sc_law_all.nd rfl (Or.inl rfl)) (pss_cons (ps_set (i := 6) sc_law_all.nd rfl (Or.inl rfl) (pe_op op_mod (pe_callTy (T := "int") (r := rInt1) call_int1 (by rfl) T.b_int (by decide +kernel) (pa_cons (pe_op op_add (pe_ix (r := rIxL K) ix_list (pv 2) pe_int (fun _ _ => rfl)) (pe_op op_mul (pv 5) (pv 3))) pa_nil)) pe_int))
      (pss_one (ps_expr (pe_bm PySem.F.plainAttrs_list PySem.F.slot_list_append PySem.F.type_list_append mt_append (pv 4) (pa_cons (pe_tup (pa_cons (pe_tup (pa_cons (pe_op op_fdiv (pv 6) pe_int) (pa_cons (pe_ix (r := rIxL K) ix_list (pe_lst (pa_cons pe_str (pa_cons pe_str pa_nil))) (pe_op op_mod (pe_op op_fdiv (pv 6) pe_int) pe_int) (fun _ _ => rfl)) (pa_cons (pe_op op_mod (pv 6) pe_int) pa_nil)))) (pa_cons (pe_op op_mod (pe_callTy (T := "int") (r := rInt1) call_int1 (by rfl) T.b_int (by decide +kernel) (pa_cons (pe_op op_add (pe_ix (r := rIxL K) ix_list (pv 2) pe_int (fun _ _ => rfl)) (pv 5)) pa_nil)) (pv 1)) pa_nil))) pa_nil))))))
      (pss_one (ps_ret (pv 4))))))), ?_⟩
    try simp (maxSteps := 1000000) only [tSeq, tIfS, tTest, tOp, tUn, tCB, tCons, tNil, tVar, tC, rI0, rI, rU, rEq, rNe, tRet, tRetN, tAsg, gName, gSub, tBM, tBM0, tNext, tB, tNot, tAnd, tOr, tIf, tCall, tDrop, tBreak, tCont, L2.start, tDGet, sDPut, tTup, tLst, tDNewK, tRevL, rCat, rAppend, rPop, rSetL, tAndV, tOrV, tNotV, tSl, tPart, tNoPart, tM1, gTup, gCons, gNil, cxK, cxnK, List.map_cons, List.map_nil, List.length_cons, List.length_nil, List.replicate, List.cons_append, List.nil_append, List.append_nil, List.set_cons_zero, List.set_cons_succ, List.getElem?_cons_zero, List.getElem?_cons_succ, Option.some.injEq, V.ref.injEq, V.int.injEq, V.str.injEq, V.bl.injEq, V.ty.injEq, exists_eq_left', exists_eq_left, exists_and_left, List.cons.injEq, and_true, true_and, sc_ii, sc_ss, sc_bb, sc_ni, sc_in, sc_is, sc_si, sc_nn, decide_true, decide_false, reduceCtorEq, Bool.false_eq_true, if_true, if_false, ite_true, ite_false, exists_const, eq_self, false_and, and_false, or_false, false_or, exists_false, Evl.rLenS, rSum, wipe, tYes, exists_eq, exists_eq', rIxL, rIxT, rIxS, exists_and_right, gt_iff_lt, not_true_eq_false, not_false_eq_true, Bool.not_true, Bool.not_false, decide_eq_true_eq, Nat.reduceSub, Nat.reduceAdd, List.append_assoc, tChain, tDIn, tDNotIn, sDDel, tAug, ipI, rInt1_int, rInt1_bl]
    refine ⟨by rw [sizeLine_eq]; decide, fun p np => ?_⟩
    have kp := (Kp.new np : Kp [] H (upd H p (.lst [.int 60, .int 6, .int (b : Nat)])))
    refine ⟨c, p, [60, 6, (b : Nat)], rfl, c0, sq_l upd_same, (show 3 ≤ 100 by decide), fun x hx => ?_, fun dr dl H1 n1 hdl dlen hdr k1 => ?_⟩
    · simp at hx
      rcases hx with rfl | rfl | rfl <;> omega
    obtain ⟨z0, z1, z2, rfl⟩ : ∃ z0 z1 z2, dr = [z0, z1, z2] := by
      match dr, dlen with
      | [z0, z1, z2], _ => exact ⟨z0, z1, z2, rfl⟩
    have h0 := hdr 0 z0 60 rfl rfl
    have h1 := hdr 1 z1 6 rfl rfl
    have h2 := hdr 2 z2 (b : Nat) rfl rfl
    have k01 := kp.trans k1
    refine ⟨by rw [sizeLine_eq]; decide, fun p1 np1 => ?_⟩
    have kq := (Kp.new np1 : Kp [] H1 (upd H1 p1 (.lst [.int 1, .int 7, .int 11, .int 13, .int 31, .int 59])))
    have hp1 : (upd H1 p1 (.lst [.int 1, .int 7, .int 11, .int 13, .int 31, .int 59])) p1 = some (.lst (strideL.map V.int)) := upd_same
    generalize upd H1 p1 (.lst [.int 1, .int 7, .int 11, .int 13, .int 31, .int 59]) = H2 at kq hp1 ⊢
    have hdl2 := kq _ _ not0 hdl
    obtain ⟨n1', en1⟩ := Int.eq_ofNat_of_zero_le h1.1
    obtain ⟨s, es, s60, hs⟩ := stride_ok n1' (by omega)
    refine ⟨dl, rfl, _, sq_l hdl2, _, rfl, _, z1, rfl, sq_l hp1, _, atI_of h1.1 (by rw [List.getElem?_map, show z1.toNat = n1' by omega, es]; rfl), Nat.zero_le _, fun mv nmv => ?_⟩
    have kmv := (Kp.new nmv : Kp [] H2 (upd H2 mv (.lst [])))
    have k02 := k01.trans kq
    refine forN 60 (by decide) (fun j σ G => ∃ (vs : List V) (c5 c6 : Option V), σ = [some (.int c), some (.int (b : Nat)), some (.ref dl), some (.int (s : Nat)), some (.ref mv), c5, c6] ∧ G mv = some (.lst vs) ∧ Rw (TM G) vs ((List.range j).map (mvA z0 s z2 b)) ∧ Kp [] H2 G) (fun R r => r) ⟨[], none, none, rfl, upd_same, .nil, kmv⟩ (fun j σ G hj h => ?_) fun σ G h => ?_
    · obtain ⟨vs, c5, c6, rfl, hv, hms, kG⟩ := h
      have hdlG := kG _ _ not0 hdl2
      have lv : vs.length = j := by have := hms.len; rw [List.length_map, List.length_range] at this; exact this
      try simp (maxSteps := 1000000) only [tSeq, tIfS, tTest, tOp, tUn, tCB, tCons, tNil, tVar, tC, rI0, rI, rU, rEq, rNe, tRet, tRetN, tAsg, gName, gSub, tBM, tBM0, tNext, tB, tNot, tAnd, tOr, tIf, tCall, tDrop, tBreak, tCont, L2.start, tDGet, sDPut, tTup, tLst, tDNewK, tRevL, rCat, rAppend, rPop, rSetL, tAndV, tOrV, tNotV, tSl, tPart, tNoPart, tM1, gTup, gCons, gNil, cxK, cxnK, List.map_cons, List.map_nil, List.length_cons, List.length_nil, List.replicate, List.cons_append, List.nil_append, List.append_nil, List.set_cons_zero, List.set_cons_succ, List.getElem?_cons_zero, List.getElem?_cons_succ, Option.some.injEq, V.ref.injEq, V.int.injEq, V.str.injEq, V.bl.injEq, V.ty.injEq, exists_eq_left', exists_eq_left, exists_and_left, List.cons.injEq, and_true, true_and, sc_ii, sc_ss, sc_bb, sc_ni, sc_in, sc_is, sc_si, sc_nn, decide_true, decide_false, reduceCtorEq, Bool.false_eq_true, if_true, if_false, ite_true, ite_false, exists_const, eq_self, false_and, and_false, or_false, false_or, exists_false, Evl.rLenS, rSum, wipe, tYes, exists_eq, exists_eq', rIxL, rIxT, rIxS, exists_and_right, gt_iff_lt, not_true_eq_false, not_false_eq_true, Bool.not_true, Bool.not_false, decide_eq_true_eq, Nat.reduceSub, Nat.reduceAdd, List.append_assoc, tChain, tDIn, tDNotIn, sDDel, tAug, ipI, rInt1_int, rInt1_bl]
      refine ⟨_, sq_l hdlG, _, rfl, .inl ⟨by omega, by omega⟩, z0, rfl, by decide, .inl ⟨rfl, _, sq_l hv⟩, ?_⟩
      have x0 := Int.emod_nonneg (z0 + (j : Int) * (s : Int)) (show (60 : Int) ≠ 0 by decide)
      have x1 := Int.emod_lt_of_pos (z0 + (j : Int) * (s : Int)) (show (0 : Int) < 60 by decide)
      have em : mvA z0 s z2 b j = (deedA ((z0 + (j : Int) * (s : Int)) % 60), (z2 + (j : Nat)) % (b : Nat)) := rfl
      generalize (z0 + (j : Int) * (s : Int)) % 60 = x at x0 x1 em ⊢
      refine ⟨⟨by decide, by decide⟩, by rw [sizeLine_eq]; decide, fun q1 nq1 => ⟨⟨by decide, by decide⟩, by decide, _, sq_l upd_same, .str (wordA x), ?_, by decide, by rw [sizeLine_eq]; decide, fun q2 nq2 => ?_⟩⟩
      · unfold wordA
        split
        · rename_i h; rw [h]; rfl
        · rename_i h; rw [show x / 10 % 2 = 1 by omega]; rfl
      have ka := (Kp.new nq1 : Kp [] G (upd G q1 (.lst [.str (Str.ofString "return"), .str (Str.ofString "step")])))
      generalize upd G q1 (.lst [.str (Str.ofString "return"), .str (Str.ofString "step")]) = G1 at ka nq2 ⊢
      have kb := (Kp.new nq2 : Kp [] G1 (upd G1 q2 (.tup [.int (x / 20), .str (wordA x), .int (x % 10)])))
      have hq2 : TD (upd G1 q2 (.tup [.int (x / 20), .str (wordA x), .int (x % 10)])) q2 (deedA x) := upd_same
      generalize upd G1 q2 (.tup [.int (x / 20), .str (wordA x), .int (x % 10)]) = G2 at kb hq2 ⊢
      have kG2 := ka.trans kb
      refine ⟨_, sq_l (kG2 _ _ not0 hdlG), _, rfl, z2, rfl, by omega, by rw [sizeLine_eq]; decide, fun q3 nq3 => ?_⟩
      have kc := (Kp.new nq3 : Kp [] G2 (upd G2 q3 (.tup [.ref q2, .int ((z2 + (j : Nat)) % (b : Nat))])))
      have hq3 : (upd G2 q3 (.tup [.ref q2, .int ((z2 + (j : Nat)) % (b : Nat))])) q3 = some (.tup [.ref q2, .int ((z2 + (j : Nat)) % (b : Nat))]) := upd_same
      generalize upd G2 q3 (.tup [.ref q2, .int ((z2 + (j : Nat)) % (b : Nat))]) = G3 at kc hq3 ⊢
      have kG3 := kG2.trans kc
      have hv3 := kG3 _ _ not0 hv
      have tp : Tp G3 (upd G3 mv (.lst (vs ++ [.ref q3]))) := (Tp.refl G3).putL hv3
      have nw : TM G3 (.ref q3) (mvA z0 s z2 b j) := by
        rw [em]
        exact ⟨q3, q2, rfl, hq3, kc.tps _ _ hq2⟩
      refine ⟨vs, hv3, by rw [sizeLine_eq]; omega, _, upd_same, ?_, (kG.trans kG3).wr nmv⟩
      rw [List.range_succ, List.map_append]
      exact (rwTM (rwTM hms kG3.tps) tp).snoc (nw.tp tp)
    · obtain ⟨vs, c5, c6, rfl, hv, hms, kG⟩ := h
      try simp (maxSteps := 1000000) only [tSeq, tIfS, tTest, tOp, tUn, tCB, tCons, tNil, tVar, tC, rI0, rI, rU, rEq, rNe, tRet, tRetN, tAsg, gName, gSub, tBM, tBM0, tNext, tB, tNot, tAnd, tOr, tIf, tCall, tDrop, tBreak, tCont, L2.start, tDGet, sDPut, tTup, tLst, tDNewK, tRevL, rCat, rAppend, rPop, rSetL, tAndV, tOrV, tNotV, tSl, tPart, tNoPart, tM1, gTup, gCons, gNil, cxK, cxnK, List.map_cons, List.map_nil, List.length_cons, List.length_nil, List.replicate, List.cons_append, List.nil_append, List.append_nil, List.set_cons_zero, List.set_cons_succ, List.getElem?_cons_zero, List.getElem?_cons_succ, Option.some.injEq, V.ref.injEq, V.int.injEq, V.str.injEq, V.bl.injEq, V.ty.injEq, exists_eq_left', exists_eq_left, exists_and_left, List.cons.injEq, and_true, true_and, sc_ii, sc_ss, sc_bb, sc_ni, sc_in, sc_is, sc_si, sc_nn, decide_true, decide_false, reduceCtorEq, Bool.false_eq_true, if_true, if_false, ite_true, ite_false, exists_const, eq_self, false_and, and_false, or_false, false_or, exists_false, Evl.rLenS, rSum, wipe, tYes, exists_eq, exists_eq', rIxL, rIxT, rIxS, exists_and_right, gt_iff_lt, not_true_eq_false, not_false_eq_true, Bool.not_true, Bool.not_false, decide_eq_true_eq, Nat.reduceSub, Nat.reduceAdd, List.append_assoc, tChain, tDIn, tDNotIn, sDDel, tAug, ipI, rInt1_int, rInt1_bl]
      exact q mv vs _ G (k02.free0 nmv) hv hms ⟨mvA_good hs b1, by rw [List.length_map, List.length_range]; decide⟩ (k02.trans kG)
def spLRows (K : PySem.W.Frag) : Sp := fun vs H Q _ => ∃ (a mn : Addr) (wide : Bool) (b : Nat) (ns : List Int) (us : List V) (ds : List Dd), vs = [.ref a, .ref mn, .bl wide, .int (b : Nat)] ∧ Scr K H a ns ∧ 1 ≤ b ∧ b ≤ 100 ∧ H mn = some (.lst us) ∧ Rw (TDv H) us ds ∧ MenuOk ds ∧ ∀ (l : Addr) (rs : List V) (rows : List (List Mv)) H', H l = none → H' l = some (.lst rs) → Rw (RwN l H') rs rows → rows.length = b → (∀ r ∈ rows, G6 b r) → Kp [] H H' → Q (.ref l) H'
theorem ok_law_rows {f : Addr} {fd : FuncData} (D : Df K mg "_law_rows" s_law_rows ["_law_script", "_law_menu_here", "_law_wide", "_law_size"] f fd) (T : BtG mg) {gc : Addr} {gdc : FuncData} (D_law_cell : Df K mg "_law_cell" s_law_cell ["_law_script", "_law_k"] gc gdc) (G_law_cell : FnOk P w K mg base CX0 1 gc gdc ["_law_script", "_law_k"] (spCell K))
    {g1 : Addr} {gd1 : FuncData} (D_law_moves : Df K mg "_law_moves" s_law_moves ["_law_cell_here", "_law_menu_here", "_law_size"] g1 gd1) (G_law_moves : FnOk P w K mg base CX0 2 g1 gd1 ["_law_cell_here", "_law_menu_here", "_law_size"] spLMoves)
    {g2 : Addr} {gd2 : FuncData} (D_law_all : Df K mg "_law_all" s_law_all ["_law_cell_here", "_law_size"] g2 gd2) (G_law_all : FnOk P w K mg base CX0 2 g2 gd2 ["_law_cell_here", "_law_size"] spLAll) : FnOk P w K mg base CX0 3 f fd ["_law_script", "_law_menu_here", "_law_wide", "_law_size"] (spLRows K) := by
  refine D.F.ok sc_law_rows (fun vs H Q E h => ?_) (fun cdv A outer s H vs Q E hr h => ?_)
  · obtain ⟨_, _, _, _, _, _, _, rfl, _⟩ := h
    rfl
  · obtain ⟨a, mn, wide, b, ns, us, ds, rfl, hS, b1, b2, hmn, hus, hm, q⟩ := h
    refine ⟨_, (pss_cons (ps_set (i := 4) sc_law_rows.nd rfl (Or.inl rfl) (pe_lst pa_nil))
      (pss_cons (ps_for PassesOwn.never rfl (pi_range1 rfl T.b_range (pa_cons (pv 3) pa_nil)) (pg_name (i := 5) sc_law_rows.nd rfl (Or.inl rfl)) (pss_one (ps_if (pt_not (pt_val (pv 2))) (pss_one (ps_expr (pe_bm PySem.F.plainAttrs_list PySem.F.slot_list_append PySem.F.type_list_append mt_append (pv 4) (pa_cons (pe_call G_law_moves (hr.mono (by decide)) rfl D_law_moves.g D_law_moves.F.kp D_law_moves.b .nil pass0 (pa_cons (pe_call G_law_cell (hr.mono (by decide)) rfl D_law_cell.g D_law_cell.F.kp D_law_cell.b .nil pass0 (pa_cons (pv 0) (pa_cons (pe_op op_add pe_int (pv 5)) pa_nil))) (pa_cons (pv 1) (pa_cons (pv 3) pa_nil)))) pa_nil)))) (pss_one (ps_if (PW.pt (pw_or (pt_cmpR op_eq (pv 5) pe_int (nomark _)) (pw_or (pt_cmpR op_eq (pv 5) (pe_op op_sub (pv 3) pe_int) (nomark _)) (pw_or1 (pt_cmpR op_eq (pv 5) pe_int (nomark _)))))) (pss_one (ps_expr (pe_bm PySem.F.plainAttrs_list PySem.F.slot_list_append PySem.F.type_list_append mt_append (pv 4) (pa_cons (pe_call G_law_all (hr.mono (by decide)) rfl D_law_all.g D_law_all.F.kp D_law_all.b .nil pass0 (pa_cons (pe_call G_law_cell (hr.mono (by decide)) rfl D_law_cell.g D_law_cell.F.kp D_law_cell.b .nil pass0 (pa_cons (pv 0) (pa_cons (pe_op op_add pe_int (pe_op op_mod (pv 5) pe_int)) pa_nil))) (pa_cons (pv 3) pa_nil))) pa_nil)))) (pss_one (ps_expr (pe_bm PySem.F.plainAttrs_list PySem.F.slot_list_append PySem.F.type_list_append mt_append (pv 4) (pa_cons (pe_lst (pa_cons (pe_tup (pa_cons (pe_ix (r := rIxL K) ix_list (pv 1) (pe_op op_mod (pv 5) (pe_callB (id := "len") (r := Evl.rLenS K) call_len_seq (by rfl) T.b_len PySem.boot_len (pa_cons (pv 1) pa_nil))) (fun _ _ => rfl)) (pa_cons (pe_op op_mod (pe_op op_add (pe_op op_mul pe_int (pv 5)) pe_int) (pv 3)) pa_nil))) pa_nil)) pa_nil)))))))))
      (pss_one (ps_ret (pv 4))))), ?_⟩
    try simp (maxSteps := 1000000) only [tSeq, tIfS, tTest, tOp, tUn, tCB, tCons, tNil, tVar, tC, rI0, rI, rU, rEq, rNe, tRet, tRetN, tAsg, gName, gSub, tBM, tBM0, tNext, tB, tNot, tAnd, tOr, tIf, tCall, tDrop, tBreak, tCont, L2.start, tDGet, sDPut, tTup, tLst, tDNewK, tRevL, rCat, rAppend, rPop, rSetL, tAndV, tOrV, tNotV, tSl, tPart, tNoPart, tM1, gTup, gCons, gNil, cxK, cxnK, List.map_cons, List.map_nil, List.length_cons, List.length_nil, List.replicate, List.cons_append, List.nil_append, List.append_nil, List.set_cons_zero, List.set_cons_succ, List.getElem?_cons_zero, List.getElem?_cons_succ, Option.some.injEq, V.ref.injEq, V.int.injEq, V.str.injEq, V.bl.injEq, V.ty.injEq, exists_eq_left', exists_eq_left, exists_and_left, List.cons.injEq, and_true, true_and, sc_ii, sc_ss, sc_bb, sc_ni, sc_in, sc_is, sc_si, sc_nn, decide_true, decide_false, reduceCtorEq, Bool.false_eq_true, if_true, if_false, ite_true, ite_false, exists_const, eq_self, false_and, and_false, or_false, false_or, exists_false, Evl.rLenS, rSum, wipe, tYes, exists_eq, exists_eq', rIxL, rIxT, rIxS, exists_and_right, gt_iff_lt, not_true_eq_false, not_false_eq_true, Bool.not_true, Bool.not_false, decide_eq_true_eq, Nat.reduceSub, Nat.reduceAdd, List.append_assoc, tChain, tDIn, tDNotIn, sDDel, tAug, ipI, rInt1_int, rInt1_bl]
    refine ⟨Nat.zero_le _, fun rl nr => ?_⟩
    have kr := (Kp.new nr : Kp [] H (upd H rl (.lst [])))
    have lus : us.length = ds.length := hus.len
    have hlo := hm.lo
    have hhi := hm.hi
    refine forN b (by omega) (fun j σ G => ∃ (rs : List V) (rows : List (List Mv)) (c5 : Option V), σ = [some (.ref a), some (.ref mn), some (.bl wide), some (.int (b : Nat)), some (.ref rl), c5] ∧ G rl = some (.lst rs) ∧ Rw (RwN rl G) rs rows ∧ rows.length = j ∧ (∀ r ∈ rows, G6 b r) ∧ Kp [] H G) (fun R r => ⟨_, rfl, r⟩) ⟨[], [], _, rfl, upd_same, .nil, rfl, fun r h => (nomatch h), kr⟩ (fun j σ G hj h => ?_) fun σ G h => ?_
    · obtain ⟨rs, rows, c5, rfl, hrl, hrs, rlen, hrows, kG⟩ := h
      have app : ∀ (l : Addr) (vs : List V) (ms : List Mv) (G2 : Hp), G l = none → G2 l = some (.lst vs) → Rw (TM G2) vs ms → G6 b ms → Kp [] G G2 → ∃ x, G2 rl = some (.lst x) ∧ x.length < sizeLine ∧ ∃ rs', (upd G2 rl (.lst (x ++ [.ref l]))) rl = some (.lst rs') ∧ ∃ rows', Rw (RwN rl (upd G2 rl (.lst (x ++ [.ref l])))) rs' rows' ∧ rows'.length = j + 1 ∧ (∀ r ∈ rows', G6 b r) ∧ Kp [] H (upd G2 rl (.lst (x ++ [.ref l]))) := by
        intro l vs ms G2 nl hl hms gm k2
        have hrl2 := k2 _ _ not0 hrl
        have nrl : l ≠ rl := fun z => by rw [z, hrl] at nl; cases nl
        have kR : Kp [rl] G2 (upd G2 rl (.lst (rs ++ [.ref l]))) := (Kp.refl [rl] G2).put (by simp)
        refine ⟨rs, hrl2, by rw [hrs.len, sizeLine_eq]; omega, _, upd_same, rows ++ [ms], (hrs.mono fun u g h => (h.kp0 k2).kp hrl2 kR).snoc (RwN.kp ⟨l, vs, rfl, nrl, hl, hms⟩ hrl2 kR), by simp [rlen], fun r hr2 => ?_, (kG.trans k2).wr nr⟩
        rcases List.mem_append.mp hr2 with h | h
        · exact hrows r h
        · rw [List.mem_singleton.mp h]; exact gm
      have hmnG := kG _ _ not0 hmn
      have husG : Rw (TDv G) us ds := hus.mono fun _ _ z => z.tp kG.tps
      have hSG := hS.kp kG
      try simp (maxSteps := 1000000) only [tSeq, tIfS, tTest, tOp, tUn, tCB, tCons, tNil, tVar, tC, rI0, rI, rU, rEq, rNe, tRet, tRetN, tAsg, gName, gSub, tBM, tBM0, tNext, tB, tNot, tAnd, tOr, tIf, tCall, tDrop, tBreak, tCont, L2.start, tDGet, sDPut, tTup, tLst, tDNewK, tRevL, rCat, rAppend, rPop, rSetL, tAndV, tOrV, tNotV, tSl, tPart, tNoPart, tM1, gTup, gCons, gNil, cxK, cxnK, List.map_cons, List.map_nil, List.length_cons, List.length_nil, List.replicate, List.cons_append, List.nil_append, List.append_nil, List.set_cons_zero, List.set_cons_succ, List.getElem?_cons_zero, List.getElem?_cons_succ, Option.some.injEq, V.ref.injEq, V.int.injEq, V.str.injEq, V.bl.injEq, V.ty.injEq, exists_eq_left', exists_eq_left, exists_and_left, List.cons.injEq, and_true, true_and, sc_ii, sc_ss, sc_bb, sc_ni, sc_in, sc_is, sc_si, sc_nn, decide_true, decide_false, reduceCtorEq, Bool.false_eq_true, if_true, if_false, ite_true, ite_false, exists_const, eq_self, false_and, and_false, or_false, false_or, exists_false, Evl.rLenS, rSum, wipe, tYes, exists_eq, exists_eq', rIxL, rIxT, rIxS, exists_and_right, gt_iff_lt, not_true_eq_false, not_false_eq_true, Bool.not_true, Bool.not_false, decide_eq_true_eq, Nat.reduceSub, Nat.reduceAdd, List.append_assoc, tChain, tDIn, tDNotIn, sDDel, tAug, ipI, rInt1_int, rInt1_bl]
      have lt : tyV K "list" (V.ref rl) G := .inl ⟨rfl, _, sq_l hrl⟩
      have all : tyV K "list" (V.ref rl) G ∧ (0 : Int) < 7 ∧ ∀ (k : Nat), k ≤ 1000 → ∀ Qc : VK, (∀ (r : Int) H', 0 ≤ r → Kp [] G H' → Qc (.int r) H') → spCell K [V.ref a, V.int (k : Nat)] G Qc E0 := ⟨lt, by decide, fun k hk Qc h => ⟨a, k, ns, rfl, hSG, hk, h⟩⟩
      have cl : ∀ (k : Nat), k ≤ 1000 → ∀ Qc : VK, (∀ (r : Int) H', 0 ≤ r → Kp [] G H' → Qc (.int r) H') → spCell K [V.ref a, V.int (k : Nat)] G Qc E0 := all.2.2
      rw [show (4 : Int) + (j : Int) = ((4 + j : Nat) : Int) by omega, show (4 : Int) + (j : Int) % 7 = ((4 + j % 7 : Nat) : Int) by omega]
      refine ite2 (fun h1 => ?_) (fun h1 => ?_)
      · refine ⟨lt, cl _ (by omega) _ fun r H1 r0 k1 => ⟨r, mn, b, us, ds, rfl, r0, b1, b2, k1 _ _ not0 hmnG, husG.mono fun _ _ z => z.tp k1.tps, hm, fun l vs ms H' nl hl hms gm k2 => app l vs ms H' (k1.free0 nl) hl hms gm (k1.trans k2)⟩⟩
      have useAll : ∀ H1 (r : Int), 0 ≤ r → Kp [] G H1 → ∀ Qc : VK, (∀ (l : Addr) (vs : List V) (ms : List Mv) H', G l = none → H' l = some (.lst vs) → Rw (TM H') vs ms → G6 b ms → Kp [] G H' → Qc (.ref l) H') → spLAll [V.int r, V.int (b : Nat)] H1 Qc E0 := fun H1 r r0 k1 Qc h => ⟨r, b, rfl, r0, b1, b2, fun l vs ms H' nl hl hms gm k2 => h l vs ms H' (k1.free0 nl) hl hms gm (k1.trans k2)⟩
      refine ite2 (fun h2 => ⟨lt, by decide, cl _ (by omega) _ fun r H1 r0 k1 => useAll H1 r r0 k1 _ fun l vs ms H' nl hl hms gm k2 => app l vs ms H' nl hl hms gm k2⟩) (fun h2 => ?_)
      refine ite2 (fun h3 => ⟨lt, by decide, cl _ (by omega) _ fun r H1 r0 k1 => useAll H1 r r0 k1 _ fun l vs ms H' nl hl hms gm k2 => app l vs ms H' nl hl hms gm k2⟩) (fun h3 => ?_)
      refine ite2 (fun h4 => ⟨lt, by decide, cl _ (by omega) _ fun r H1 r0 k1 => useAll H1 r r0 k1 _ fun l vs ms H' nl hl hms gm k2 => app l vs ms H' nl hl hms gm k2⟩) (fun h4 => ?_)
      have jm0 := Int.emod_nonneg (j : Int) (show ((us.length : Nat) : Int) ≠ 0 by omega)
      have jm1 := Int.emod_lt_of_pos (j : Int) (show (0 : Int) < ((us.length : Nat) : Int) by omega)
      have ed : ds[((j : Int) % (us.length : Nat)).toNat]? = some (ds[((j : Int) % (us.length : Nat)).toNat]'(by omega)) := List.getElem?_eq_getElem _
      generalize ds[((j : Int) % (us.length : Nat)).toNat]'(by omega) = d at ed
      obtain ⟨u, eu, t, rfl, ht⟩ := husG.at ed
      refine ⟨lt, _, .inl (sq_l hmnG), by omega, _, sq_l hmnG, _, atI_of jm0 eu, .inl ⟨by decide, by decide⟩, by omega, by rw [sizeLine_eq]; decide, fun p np => ⟨by rw [sizeLine_eq]; decide, fun p1 np1 => ?_⟩⟩
      have g0 := Int.emod_nonneg (7 * (j : Int) + 1) (show ((b : Nat) : Int) ≠ 0 by omega)
      have g1 := Int.emod_lt_of_pos (7 * (j : Int) + 1) (show (0 : Int) < ((b : Nat) : Int) by omega)
      generalize (7 * (j : Int) + 1) % (b : Nat) = g at g0 g1 np1 ⊢
      have ka := (Kp.new np : Kp [] G (upd G p (.tup [.ref t, .int g])))
      have hp : (upd G p (.tup [.ref t, .int g])) p = some (.tup [.ref t, .int g]) := upd_same
      generalize upd G p (.tup [.ref t, .int g]) = G1 at ka hp np1 ⊢
      have kb := (Kp.new np1 : Kp [] G1 (upd G1 p1 (.lst [.ref p])))
      exact app p1 [.ref p] [(d, g)] _ (ka.free0 np1) upd_same (.cons ⟨p, t, rfl, kb _ _ not0 hp, (ka.trans kb).tps _ _ ht⟩ .nil) ⟨⟨fun m hm2 => by rw [List.mem_singleton.mp hm2]; exact hm.good d (List.mem_of_getElem? ed), fun m hm2 => by rw [List.mem_singleton.mp hm2]; exact ⟨g0, g1⟩, by simp, (show 1 ≤ 100 by decide)⟩, (show 1 ≤ 60 by decide)⟩ (ka.trans kb)
    · obtain ⟨rs, rows, c5, rfl, hrl, hrs, rlen, hrows, kG⟩ := h
      try simp (maxSteps := 1000000) only [tSeq, tIfS, tTest, tOp, tUn, tCB, tCons, tNil, tVar, tC, rI0, rI, rU, rEq, rNe, tRet, tRetN, tAsg, gName, gSub, tBM, tBM0, tNext, tB, tNot, tAnd, tOr, tIf, tCall, tDrop, tBreak, tCont, L2.start, tDGet, sDPut, tTup, tLst, tDNewK, tRevL, rCat, rAppend, rPop, rSetL, tAndV, tOrV, tNotV, tSl, tPart, tNoPart, tM1, gTup, gCons, gNil, cxK, cxnK, List.map_cons, List.map_nil, List.length_cons, List.length_nil, List.replicate, List.cons_append, List.nil_append, List.append_nil, List.set_cons_zero, List.set_cons_succ, List.getElem?_cons_zero, List.getElem?_cons_succ, Option.some.injEq, V.ref.injEq, V.int.injEq, V.str.injEq, V.bl.injEq, V.ty.injEq, exists_eq_left', exists_eq_left, exists_and_left, List.cons.injEq, and_true, true_and, sc_ii, sc_ss, sc_bb, sc_ni, sc_in, sc_is, sc_si, sc_nn, decide_true, decide_false, reduceCtorEq, Bool.false_eq_true, if_true, if_false, ite_true, ite_false, exists_const, eq_self, false_and, and_false, or_false, false_or, exists_false, Evl.rLenS, rSum, wipe, tYes, exists_eq, exists_eq', rIxL, rIxT, rIxS, exists_and_right, gt_iff_lt, not_true_eq_false, not_false_eq_true, Bool.not_true, Bool.not_false, decide_eq_true_eq, Nat.reduceSub, Nat.reduceAdd, List.append_assoc, tChain, tDIn, tDNotIn, sDDel, tAug, ipI, rInt1_int, rInt1_bl]
      exact q rl rs rows G nr hrl hrs rlen hrows kG
end
end My

set_option Elab.async false
set_option linter.all false
set_option maxRecDepth 100000
set_option maxHeartbeats 4000000
namespace My
open PySem L2 NdefX
abbrev s_law_told : Stmt := top 28
theorem sc_law_told : FnScope ["_law_web", "_law_rows_here", "_law_at", "_law_told_here"] ["_law_web", "_law_rows_here"] (defScope s_law_told) := ⟨rfl, rfl, rfl, by decide +kernel, rfl, by decide +kernel, by decide +kernel⟩
abbrev s_law_no_standing : Stmt := top 29
theorem sc_law_no_standing : FnScope ["_law_web", "_law_at", "e"] ["_law_web", "_law_at"] (defScope s_law_no_standing) := ⟨rfl, rfl, rfl, by decide +kernel, rfl, by decide +kernel, by decide +kernel⟩
abbrev s_law_refused : Stmt := top 31
theorem sc_law_refused : FnScope ["_law_rows_here", "_law_at", "e"] ["_law_rows_here", "_law_at"] (defScope s_law_refused) := ⟨rfl, rfl, rfl, by decide +kernel, rfl, by decide +kernel, by decide +kernel⟩
abbrev s_law_too_large : Stmt := top 32
theorem sc_law_too_large : FnScope ["_law_rows_here", "e"] ["_law_rows_here"] (defScope s_law_too_large) := ⟨rfl, rfl, rfl, by decide +kernel, rfl, by decide +kernel, by decide +kernel⟩
structure BtO (mg : Str → Option Value) : Prop where
  b_len : mg "len" = none
  b_range : mg "range" = none
  b_sorted : mg "sorted" = none
theorem mvK_inj {m n : Mv} (hm : MvOk m) (hn : MvOk n) (h : mvK m = mvK n) : m = n := by
  obtain ⟨d, g⟩ := m
  obtain ⟨d', g'⟩ := n
  have h : ddK d ++ [[g.toNat]] = ddK d' ++ [[g'.toNat]] := h
  have h1 := List.append_inj' h rfl
  have e := ddK_inj hm.1 hn.1 hm.2.2.1 hn.2.2.1 h1.1
  have e2 : g.toNat = g'.toNat := by simpa using h1.2
  have g0 : 0 ≤ g := hm.2.1
  have g0' : 0 ≤ g' := hn.2.1
  have e : d = d' := e
  have e3 : g = g' := by omega
  rw [e, e3]
theorem srt_uniq {n : Nat} {r s s' : List Mv} (hg : GoodRw n r) (h : SrM r s) (h' : SrM r s') : s = s' := by
  refine List.Perm.eq_of_pairwise (le := fun x y : Mv => mvLt y x = false) (fun a b ha hb h1 h2 => ?_) h.2 h'.2 (h.1.trans h'.1.symm)
  have ma := h.1.mem_iff.mp ha
  have mb := h'.1.mem_iff.mp hb
  have oa := MvOk.of (hg.deed a ma) (hg.goal a ma)
  have ob := MvOk.of (hg.deed b mb) (hg.goal b mb)
  refine mvK_inj oa ob ?_
  have h1 : decide (mvK b < mvK a) = false := h1
  have h2 : decide (mvK a < mvK b) = false := h2
  rw [decide_eq_false_iff_not] at h1 h2
  exact List.le_antisymm (List.not_lt.mp h1) (List.not_lt.mp h2)
section
variable {P : Program} {w : World} {K : PySem.W.Frag} {mg : Str → Option Value} {base : Heap} {t1 : Tok} {WC NS : Addr}
def spTold (WC : Addr) : Sp := fun vs H Q _ => ∃ (o a : Addr) (rs : List V) (rows srs : List (List Mv)), vs = [.ref o, .ref a] ∧ WebAt WC H o srs ∧ H a = some (.lst rs) ∧ Rw (RwAt H) rs rows ∧ SrRel rows srs ∧ rows.length ≤ 100 ∧ (∀ r ∈ rows, GoodRw rows.length r) ∧ ∀ H', Kp [] H H' → Q (.bl true) H'
theorem ok_law_told {f : Addr} {fd : FuncData} (D : Df K mg "_law_told" s_law_told ["_law_web", "_law_rows_here"] f fd) (T : BtO mg) (C : WbC K mg WC) {fl : Addr} {fdl : FuncData} (LN_Web : LenC K WC fl) (b_Web_len : Binds K fdl ["self"] []) (G_Web_len : FnOk P w K mg base CX0 1 fl fdl ["self"] (spWLen WC))
    {g2 : Addr} {gd2 : FuncData} (D_law_same : Df K mg "_law_same" s_law_same ["_law_told_here", "_law_due"] g2 gd2) (G_law_same : FnOk P w K mg base CX0 4 g2 gd2 ["_law_told_here", "_law_due"] (spSame 3))
    {fR : Addr} {fdR : FuncData} (ME_Web_moves : Meth K WC "moves" fR) (bM_Web_moves : Binds K fdR ["self", "at"] []) (G_Web_moves : FnOk P w K mg base (L2.CX P w) 4 fR fdR ["self", "at"] (spWMv WC NS)) : FnOk P w K mg base CX0 5 f fd ["_law_web", "_law_rows_here"] (spTold WC) := by
  refine D.F.ok sc_law_told (fun vs H Q E h => ?_) (fun cdv A outer s H vs Q E hr h => ?_)
  · obtain ⟨_, _, _, _, _, rfl, _⟩ := h
    rfl
  · obtain ⟨o, a, rs, rows, srs, rfl, hW, ha, hrs, hsr, l1, hg, q⟩ := h
    refine ⟨_, (pss_cons (ps_if (pt_cmpR op_ne (pe_callB (id := "len") (call_lenO LN_Web G_Web_len b_Web_len (hr.mono (by decide)) pass0) (by rfl) T.b_len PySem.boot_len (pa_cons (pv 0) pa_nil)) (pe_callB (id := "len") (r := Evl.rLenS K) call_len_seq (by rfl) T.b_len PySem.boot_len (pa_cons (pv 1) pa_nil)) (nomark _)) (pss_one (ps_ret pe_bl)) pss_nil)
      (pss_cons (ps_for PassesOwn.never rfl (pi_range1 rfl T.b_range (pa_cons (pe_callB (id := "len") (r := Evl.rLenS K) call_len_seq (by rfl) T.b_len PySem.boot_len (pa_cons (pv 1) pa_nil)) pa_nil)) (pg_name (i := 2) sc_law_told.nd rfl (Or.inl rfl)) (pss_cons (ps_set (i := 3) sc_law_told.nd rfl (Or.inl rfl) (pe_meth (pv 0) C.cl ME_Web_moves G_Web_moves (hr.mono (by decide)) bM_Web_moves .nil passL (pa_cons (pv 2) pa_nil)))
      (pss_cons (ps_if (pt_not (pt_val (pe_call G_law_same (hr.mono (by decide)) rfl D_law_same.g D_law_same.F.kp D_law_same.b .nil pass0 (pa_cons (pv 3) (pa_cons (pe_callB (id := "sorted") (r := rSortedM K) (cr_sortedM (hu6 hr)) (by rfl) T.b_sorted (by decide +kernel) (pa_cons (pe_ix (r := rIxL K) ix_list (pv 1) (pv 2) (fun _ _ => rfl)) pa_nil)) pa_nil))))) (pss_one (ps_ret pe_bl)) pss_nil)
      (pss_one (ps_expr (pe_bm0 PySem.F.plainAttrs_list PySem.F.slot_list_clear PySem.F.type_list_clear mt_clear (pv 3)))))))
      (pss_one (ps_ret pe_bl)))), ?_⟩
    try simp (maxSteps := 1000000) only [tSeq, tIfS, tTest, tOp, tUn, tCB, tCons, tNil, tVar, tC, rI0, rI, rU, rEq, rNe, tRet, tRetN, tAsg, gName, gSub, tBM, tBM0, tNext, tB, tNot, tAnd, tOr, tIf, tCall, tDrop, tBreak, tCont, L2.start, tDGet, sDPut, tTup, tLst, tDNewK, tRevL, rCat, rAppend, rPop, rSetL, tAndV, tOrV, tNotV, tSl, tPart, tNoPart, tM1, gTup, gCons, gNil, cxK, cxnK, List.map_cons, List.map_nil, List.length_cons, List.length_nil, List.replicate, List.cons_append, List.nil_append, List.append_nil, List.set_cons_zero, List.set_cons_succ, List.getElem?_cons_zero, List.getElem?_cons_succ, Option.some.injEq, V.ref.injEq, V.int.injEq, V.str.injEq, V.bl.injEq, V.ty.injEq, exists_eq_left', exists_eq_left, exists_and_left, List.cons.injEq, and_true, true_and, sc_ii, sc_ss, sc_bb, sc_ni, sc_in, sc_is, sc_si, sc_nn, decide_true, decide_false, reduceCtorEq, Bool.false_eq_true, if_true, if_false, ite_true, ite_false, exists_const, eq_self, false_and, and_false, or_false, false_or, exists_false, Evl.rLenS, rSum, wipe, tYes, exists_eq, exists_eq', rIxL, rIxT, rIxS, exists_and_right, gt_iff_lt, not_true_eq_false, not_false_eq_true, Bool.not_true, Bool.not_false, decide_eq_true_eq, Nat.reduceSub, Nat.reduceAdd, List.append_assoc, tChain, tDIn, tDNotIn, sDDel, tAug, ipI, rInt1_int, rInt1_bl, rLenO]
    obtain ⟨dx, a1, b1, c1, us1, gs1, hs1, ho1, rest1⟩ := id hW
    have ls : srs.length = rows.length := hsr.len
    have lr : rs.length = rows.length := hrs.len
    refine ⟨⟨dx, _, ho1⟩, o, srs, rfl, hW, srs.length, rfl, by rw [sizeLine_eq]; omega, _, .inl (sq_l ha), ?_⟩
    rw [if_neg (by rw [ls, lr]; simp)]
    refine forN rows.length (by omega) (fun j σ G => ∃ c2 c3 : Option V, σ = [some (.ref o), some (.ref a), c2, c3] ∧ Kp [] H G) (fun R r => ?_) ⟨none, none, rfl, Kp.refl _ _⟩ (fun j σ G hj h => ?_) fun σ G h => ?_
    · try simp (maxSteps := 1000000) only [tSeq, tIfS, tTest, tOp, tUn, tCB, tCons, tNil, tVar, tC, rI0, rI, rU, rEq, rNe, tRet, tRetN, tAsg, gName, gSub, tBM, tBM0, tNext, tB, tNot, tAnd, tOr, tIf, tCall, tDrop, tBreak, tCont, L2.start, tDGet, sDPut, tTup, tLst, tDNewK, tRevL, rCat, rAppend, rPop, rSetL, tAndV, tOrV, tNotV, tSl, tPart, tNoPart, tM1, gTup, gCons, gNil, cxK, cxnK, List.map_cons, List.map_nil, List.length_cons, List.length_nil, List.replicate, List.cons_append, List.nil_append, List.append_nil, List.set_cons_zero, List.set_cons_succ, List.getElem?_cons_zero, List.getElem?_cons_succ, Option.some.injEq, V.ref.injEq, V.int.injEq, V.str.injEq, V.bl.injEq, V.ty.injEq, exists_eq_left', exists_eq_left, exists_and_left, List.cons.injEq, and_true, true_and, sc_ii, sc_ss, sc_bb, sc_ni, sc_in, sc_is, sc_si, sc_nn, decide_true, decide_false, reduceCtorEq, Bool.false_eq_true, if_true, if_false, ite_true, ite_false, exists_const, eq_self, false_and, and_false, or_false, false_or, exists_false, Evl.rLenS, rSum, wipe, tYes, exists_eq, exists_eq', rIxL, rIxT, rIxS, exists_and_right, gt_iff_lt, not_true_eq_false, not_false_eq_true, Bool.not_true, Bool.not_false, decide_eq_true_eq, Nat.reduceSub, Nat.reduceAdd, List.append_assoc, tChain, tDIn, tDNotIn, sDDel, tAug, ipI, rInt1_int, rInt1_bl]
      exact ⟨_, .inl (sq_l ha), by rw [lr]; exact r⟩
    · obtain ⟨c2, c3, rfl, k⟩ := h
      have er : rows[j]? = some rows[j] := List.getElem?_eq_getElem hj
      have gr := hg _ (List.getElem_mem hj)
      generalize rows[j] = r at er gr
      obtain ⟨s, es, hs⟩ := hsr.at_ er
      obtain ⟨v, ev, hv⟩ := hrs.at er
      try simp (maxSteps := 1000000) only [tSeq, tIfS, tTest, tOp, tUn, tCB, tCons, tNil, tVar, tC, rI0, rI, rU, rEq, rNe, tRet, tRetN, tAsg, gName, gSub, tBM, tBM0, tNext, tB, tNot, tAnd, tOr, tIf, tCall, tDrop, tBreak, tCont, L2.start, tDGet, sDPut, tTup, tLst, tDNewK, tRevL, rCat, rAppend, rPop, rSetL, tAndV, tOrV, tNotV, tSl, tPart, tNoPart, tM1, gTup, gCons, gNil, cxK, cxnK, List.map_cons, List.map_nil, List.length_cons, List.length_nil, List.replicate, List.cons_append, List.nil_append, List.append_nil, List.set_cons_zero, List.set_cons_succ, List.getElem?_cons_zero, List.getElem?_cons_succ, Option.some.injEq, V.ref.injEq, V.int.injEq, V.str.injEq, V.bl.injEq, V.ty.injEq, exists_eq_left', exists_eq_left, exists_and_left, List.cons.injEq, and_true, true_and, sc_ii, sc_ss, sc_bb, sc_ni, sc_in, sc_is, sc_si, sc_nn, decide_true, decide_false, reduceCtorEq, Bool.false_eq_true, if_true, if_false, ite_true, ite_false, exists_const, eq_self, false_and, and_false, or_false, false_or, exists_false, Evl.rLenS, rSum, wipe, tYes, exists_eq, exists_eq', rIxL, rIxT, rIxS, exists_and_right, gt_iff_lt, not_true_eq_false, not_false_eq_true, Bool.not_true, Bool.not_false, decide_eq_true_eq, Nat.reduceSub, Nat.reduceAdd, List.append_assoc, tChain, tDIn, tDNotIn, sDDel, tAug, ipI, rInt1_int, rInt1_bl, tMeth]
      refine ⟨dx, _, k _ _ not0 ho1, rfl, o, .int (j : Nat), .int (j : Nat), srs, rfl, hW.kp k, .int _, fun k' ms e ems l us G1 nl hl hms k1 => ?_, fun hb => ?_⟩
      · have e : ((j : Nat) : Int) = ((k' : Nat) : Int) := V.int.inj e
        obtain rfl : j = k' := by omega
        rw [es] at ems
        cases ems
        try simp (maxSteps := 1000000) only [tSeq, tIfS, tTest, tOp, tUn, tCB, tCons, tNil, tVar, tC, rI0, rI, rU, rEq, rNe, tRet, tRetN, tAsg, gName, gSub, tBM, tBM0, tNext, tB, tNot, tAnd, tOr, tIf, tCall, tDrop, tBreak, tCont, L2.start, tDGet, sDPut, tTup, tLst, tDNewK, tRevL, rCat, rAppend, rPop, rSetL, tAndV, tOrV, tNotV, tSl, tPart, tNoPart, tM1, gTup, gCons, gNil, cxK, cxnK, List.map_cons, List.map_nil, List.length_cons, List.length_nil, List.replicate, List.cons_append, List.nil_append, List.append_nil, List.set_cons_zero, List.set_cons_succ, List.getElem?_cons_zero, List.getElem?_cons_succ, Option.some.injEq, V.ref.injEq, V.int.injEq, V.str.injEq, V.bl.injEq, V.ty.injEq, exists_eq_left', exists_eq_left, exists_and_left, List.cons.injEq, and_true, true_and, sc_ii, sc_ss, sc_bb, sc_ni, sc_in, sc_is, sc_si, sc_nn, decide_true, decide_false, reduceCtorEq, Bool.false_eq_true, if_true, if_false, ite_true, ite_false, exists_const, eq_self, false_and, and_false, or_false, false_or, exists_false, Evl.rLenS, rSum, wipe, tYes, exists_eq, exists_eq', rIxL, rIxT, rIxS, exists_and_right, gt_iff_lt, not_true_eq_false, not_false_eq_true, Bool.not_true, Bool.not_false, decide_eq_true_eq, Nat.reduceSub, Nat.reduceAdd, List.append_assoc, tChain, tDIn, tDNotIn, sDDel, tAug, ipI, rInt1_int, rInt1_bl]
        have kk := k.trans k1
        obtain ⟨ra, rus, rfl, hra, hrm⟩ := hv.kd kk.kd
        refine ⟨_, sq_l (kk _ _ not0 ha), _, atI_nat ev, ?_⟩
        have hx : ∀ x ∈ rus, ∃ m ∈ r, TM G1 x m := fun x hx => by
          obtain ⟨i, ei⟩ := List.getElem?_of_mem hx
          obtain ⟨m, em, hm⟩ := hrm.get ei
          exact ⟨m, List.mem_of_getElem? em, hm⟩
        refine ⟨ra, rus, kOf G1, rfl, sq_l hra, fun x hh => ?_, fun x hh y hy => ?_, fun ys p srt perm np => ?_⟩
        · obtain ⟨m, mm, hm⟩ := hx x hh
          rw [kOf_eq hm]
          exact ⟨hm.dp, MvOk.of (gr.deed m mm) (gr.goal m mm)⟩
        · obtain ⟨m, mm, hm⟩ := hx x hh
          obtain ⟨m', mm', hm'⟩ := hx y hy
          rw [kOf_eq hm, kOf_eq hm']
          exact MvCmp.of (gr.deed m mm) (gr.deed m' mm')
        · have kp := (Kp.new np : Kp [] G1 (upd G1 p (.lst ys)))
          have hs2 : SrM r (ys.map (kOf G1)) := ⟨by
            have := perm.map (kOf G1)
            rw [kOf_map hrm] at this
            exact this, List.pairwise_map.mpr srt⟩
          have e2 := srt_uniq gr hs hs2
          have hR := kOf_rw hrm perm
          rw [← e2] at hR
          have hl2 := kp _ _ not0 hl
          have ll : s.length ≤ 1000 := by rw [hs.1.length_eq]; have := gr.len; omega
          refine ⟨_, _, rfl, RwAt.same (ms := s) ⟨l, us, rfl, hl2, rwTM hms kp.tps⟩ ⟨p, ys, rfl, upd_same, rwTM hR kp.tps⟩ ll, true, rfl, ?_⟩
          rw [if_neg (by decide)]
          exact ⟨.inl ⟨rfl, _, sq_l hl2⟩, l, us, rfl, rfl, hl2, (kk.trans kp).wr (k.free0 nl)⟩
      · rw [show belowD (srs.length : Nat) (.int (j : Nat)) = true from below_iff.mpr ⟨_, rfl, by omega, by omega⟩] at hb
        cases hb
    · obtain ⟨c2, c3, rfl, k⟩ := h
      try simp (maxSteps := 1000000) only [tSeq, tIfS, tTest, tOp, tUn, tCB, tCons, tNil, tVar, tC, rI0, rI, rU, rEq, rNe, tRet, tRetN, tAsg, gName, gSub, tBM, tBM0, tNext, tB, tNot, tAnd, tOr, tIf, tCall, tDrop, tBreak, tCont, L2.start, tDGet, sDPut, tTup, tLst, tDNewK, tRevL, rCat, rAppend, rPop, rSetL, tAndV, tOrV, tNotV, tSl, tPart, tNoPart, tM1, gTup, gCons, gNil, cxK, cxnK, List.map_cons, List.map_nil, List.length_cons, List.length_nil, List.replicate, List.cons_append, List.nil_append, List.append_nil, List.set_cons_zero, List.set_cons_succ, List.getElem?_cons_zero, List.getElem?_cons_succ, Option.some.injEq, V.ref.injEq, V.int.injEq, V.str.injEq, V.bl.injEq, V.ty.injEq, exists_eq_left', exists_eq_left, exists_and_left, List.cons.injEq, and_true, true_and, sc_ii, sc_ss, sc_bb, sc_ni, sc_in, sc_is, sc_si, sc_nn, decide_true, decide_false, reduceCtorEq, Bool.false_eq_true, if_true, if_false, ite_true, ite_false, exists_const, eq_self, false_and, and_false, or_false, false_or, exists_false, Evl.rLenS, rSum, wipe, tYes, exists_eq, exists_eq', rIxL, rIxT, rIxS, exists_and_right, gt_iff_lt, not_true_eq_false, not_false_eq_true, Bool.not_true, Bool.not_false, decide_eq_true_eq, Nat.reduceSub, Nat.reduceAdd, List.append_assoc, tChain, tDIn, tDNotIn, sDDel, tAug, ipI, rInt1_int, rInt1_bl]
      exact q _ k
/-- what stands of an error that is caught, and of the other two that it is not -/
structure BtE (K : PySem.W.Frag) (mg : Str → Option Value) (CE S O : Addr) (nm on fld : Str) : Prop where
  b_isinstance : mg "isinstance" = none
  b_ValueError : mg "ValueError" = none
  kS : mg nm = some (.ref S)
  kC : mg "CoreError" = some (.ref CE)
  kO : mg on = some (.ref O)
  XF : XfC K S
  NO : PySem.W.findIn K (.ref S) fld = some none
  EX : PySem.W.exmOne K (.ref S) (.ref S) = some true
  kc : KitC K S
  e1 : PySem.W.kitOne K (.ref S) (.ref CE) = some true
  e2 : PySem.W.kitOne K (.ref S) (.type "ValueError") = some true
  e3 : PySem.W.kitOne K (.ref S) (.ref O) = some false
structure BtE1 (K : PySem.W.Frag) (mg : Str → Option Value) (CE NS BW TL : Addr) : Prop where
  b_isinstance : mg "isinstance" = none
  b_ValueError : mg "ValueError" = none
  k_NoStanding : mg "NoStanding" = some (.ref NS)
  k_CoreError : mg "CoreError" = some (.ref CE)
  k_BadWeb : mg "BadWeb" = some (.ref BW)
  k_TooLarge : mg "TooLarge" = some (.ref TL)
  N : BtE K mg CE NS BW "NoStanding" "BadWeb" "at"
  B : BtE K mg CE BW TL "BadWeb" "TooLarge" "at"
  L : BtE K mg CE TL BW "TooLarge" "BadWeb" "bound"
def spNoSt (WC : Addr) : Sp := fun vs H Q _ => ∃ (o : Addr) (v : V) (srs : List (List Mv)), vs = [.ref o, v] ∧ WebAt WC H o srs ∧ ((∃ i : Int, v = .int i ∧ ¬ (0 ≤ i ∧ i < srs.length)) ∨ ∃ b, v = .bl b) ∧ ∀ H', Kp [] H H' → Q (.bl true) H'
theorem ok_law_no_standing {f : Addr} {fd : FuncData} {CE BW TL : Addr} (D : Df K mg "_law_no_standing" s_law_no_standing ["_law_web", "_law_at"] f fd) (T : BtE1 K mg CE NS BW TL) (C : WbC K mg WC)
    {g2 : Addr} {gd2 : FuncData} (D_law_same : Df K mg "_law_same" s_law_same ["_law_told_here", "_law_due"] g2 gd2) (Z_law_same : FnZ P w K mg base CX0 1 g2 gd2 ["_law_told_here", "_law_due"] (spSame 0))
    {fR : Addr} {fdR : FuncData} (ME_Web_moves : Meth K WC "moves" fR) (bM_Web_moves : Binds K fdR ["self", "at"] []) (G_Web_moves : FnOk P w K mg base (L2.CX P w) 4 fR fdR ["self", "at"] (spWMv WC NS)) : FnOk P w K mg base CX0 5 f fd ["_law_web", "_law_at"] (spNoSt WC) := by
  refine D.F.ok sc_law_no_standing (fun vs H Q E h => ?_) (fun cdv A outer s H vs Q E hr h => ?_)
  · obtain ⟨_, _, _, rfl, _⟩ := h
    rfl
  · obtain ⟨o, v, srs, rfl, hW, hv, q⟩ := h
    have XF_NoStanding := T.N.XF
    have NO_at := T.N.NO
    refine ⟨_, (pss_cons (ps_try_as (i := 2) rfl rfl sc_law_no_standing.nd rfl rfl ⟨rfl, by decide, .inl T.k_NoStanding⟩ takes0 (fun W pn xe tk _ => (pss_one (ps_expr (pe_methT C.cl ME_Web_moves G_Web_moves (hr.mono (by decide)) bM_Web_moves (fun σ => passAt tk σ) (pv 0) (pa_cons (pv 1) pa_nil))))) (fun a oe cls d pn hz hf => (pss_cons (ps_if (PW.pt (pw_or (pt_not (pt_val (pe_callB (id := "isinstance") (r := rIsX K a cls d) (call_isX hz hf) (by rfl) T.b_isinstance (by decide +kernel) (pa_cons (pv 2) (pa_cons (pe_glob (v := .ref CE) rfl T.k_CoreError rfl) pa_nil))))) (pw_or (pt_not (pt_val (pe_callB (id := "isinstance") (r := rIsX K a cls d) (call_isX hz hf) (by rfl) T.b_isinstance (by decide +kernel) (pa_cons (pv 2) (pa_cons (pe_bltn (v := .ty "ValueError") (by rfl) T.b_ValueError (by decide +kernel) rfl) pa_nil))))) (pw_or1 (pt_val (pe_callB (id := "isinstance") (r := rIsX K a cls d) (call_isX hz hf) (by rfl) T.b_isinstance (by decide +kernel) (pa_cons (pv 2) (pa_cons (pe_glob (v := .ref BW) rfl T.k_BadWeb rfl) pa_nil)))))))) (pss_one (ps_ret pe_bl)) pss_nil)
      (pss_one (ps_ret (pe_callZ Z_law_same (roomZ_mark (Room.mono (j := 1) hr (by decide))) rfl D_law_same.g D_law_same.F.kp D_law_same.b (fun σ pins H s e s' I h => pass0 pins σ H s e s' I h) (pa_cons (pe_xf XF_NoStanding NO_at hz hf (pv 2)) (pa_cons (pv 1) pa_nil))))))))
      (pss_one (ps_ret pe_bl))), ?_⟩
    try simp (maxSteps := 1000000) only [tSeq, tIfS, tTest, tOp, tUn, tCB, tCons, tNil, tVar, tC, rI0, rI, rU, rEq, rNe, tRet, tRetN, tAsg, gName, gSub, tBM, tBM0, tNext, tB, tNot, tAnd, tOr, tIf, tCall, tDrop, tBreak, tCont, L2.start, tDGet, sDPut, tTup, tLst, tDNewK, tRevL, rCat, rAppend, rPop, rSetL, tAndV, tOrV, tNotV, tSl, tPart, tNoPart, tM1, gTup, gCons, gNil, cxK, cxnK, List.map_cons, List.map_nil, List.length_cons, List.length_nil, List.replicate, List.cons_append, List.nil_append, List.append_nil, List.set_cons_zero, List.set_cons_succ, List.getElem?_cons_zero, List.getElem?_cons_succ, Option.some.injEq, V.ref.injEq, V.int.injEq, V.str.injEq, V.bl.injEq, V.ty.injEq, exists_eq_left', exists_eq_left, exists_and_left, List.cons.injEq, and_true, true_and, sc_ii, sc_ss, sc_bb, sc_ni, sc_in, sc_is, sc_si, sc_nn, decide_true, decide_false, reduceCtorEq, Bool.false_eq_true, if_true, if_false, ite_true, ite_false, exists_const, eq_self, false_and, and_false, or_false, false_or, exists_false, Evl.rLenS, rSum, wipe, tYes, exists_eq, exists_eq', rIxL, rIxT, rIxS, exists_and_right, gt_iff_lt, not_true_eq_false, not_false_eq_true, Bool.not_true, Bool.not_false, decide_eq_true_eq, Nat.reduceSub, Nat.reduceAdd, List.append_assoc, tChain, tDIn, tDNotIn, sDDel, tAug, ipI, rInt1_int, rInt1_bl, tMethT]
    obtain ⟨dx, _, _, _, _, _, _, hi, _⟩ := id hW
    have hsame : Sca v v := by
      rcases hv with ⟨i, rfl, _⟩ | ⟨b, rfl⟩
      · exact .inl ⟨i, rfl, rfl⟩
      · exact .inr (.inl ⟨b, rfl, rfl⟩)
    obtain ⟨kd, hkd, nb⟩ : ∃ kd, Dq H v kd ∧ belowD (srs.length : Nat) kd = false := by
      rcases hv with ⟨i, rfl, ni⟩ | ⟨b, rfl⟩
      · refine ⟨_, .int i, ?_⟩
        cases e : belowD (srs.length : Nat) (.int i) with
        | false => rfl
        | true =>
          obtain ⟨j, ej, j0, j1⟩ := below_iff.mp e
          cases ej
          exact absurd ⟨j0, j1⟩ ni
      · exact ⟨_, .bl b, rfl⟩
    refine ⟨dx, _, hi, rfl, o, v, kd, srs, rfl, hW, hkd, fun k ms e em => ?_, fun _ x H1 nx hx k1 => ?_⟩
    · rcases hv with ⟨i, rfl, ni⟩ | ⟨b, rfl⟩
      · cases e
        exact absurd ⟨by omega, by have := (List.getElem?_eq_some_iff.mp em).1; omega⟩ ni
      · cases e
    · refine ⟨true, T.N.EX, fun _ y ny => ?_, fun z => by cases z⟩
      try simp (maxSteps := 1000000) only [tSeq, tIfS, tTest, tOp, tUn, tCB, tCons, tNil, tVar, tC, rI0, rI, rU, rEq, rNe, tRet, tRetN, tAsg, gName, gSub, tBM, tBM0, tNext, tB, tNot, tAnd, tOr, tIf, tCall, tDrop, tBreak, tCont, L2.start, tDGet, sDPut, tTup, tLst, tDNewK, tRevL, rCat, rAppend, rPop, rSetL, tAndV, tOrV, tNotV, tSl, tPart, tNoPart, tM1, gTup, gCons, gNil, cxK, cxnK, List.map_cons, List.map_nil, List.length_cons, List.length_nil, List.replicate, List.cons_append, List.nil_append, List.append_nil, List.set_cons_zero, List.set_cons_succ, List.getElem?_cons_zero, List.getElem?_cons_succ, Option.some.injEq, V.ref.injEq, V.int.injEq, V.str.injEq, V.bl.injEq, V.ty.injEq, exists_eq_left', exists_eq_left, exists_and_left, List.cons.injEq, and_true, true_and, sc_ii, sc_ss, sc_bb, sc_ni, sc_in, sc_is, sc_si, sc_nn, decide_true, decide_false, reduceCtorEq, Bool.false_eq_true, if_true, if_false, ite_true, ite_false, exists_const, eq_self, false_and, and_false, or_false, false_or, exists_false, Evl.rLenS, rSum, wipe, tYes, exists_eq, exists_eq', rIxL, rIxT, rIxS, exists_and_right, gt_iff_lt, not_true_eq_false, not_false_eq_true, Bool.not_true, Bool.not_false, decide_eq_true_eq, Nat.reduceSub, Nat.reduceAdd, List.append_assoc, tChain, tDIn, tDNotIn, sDDel, tAug, ipI, rInt1_int, rInt1_bl, tXf, tCallS]
      refine ⟨.ref CE, .ref CE, true, NS, x, _, rfl, fun u h => h, rfl, rfl, hx, T.N.kc, T.N.e1, true, rfl, ?_⟩
      try simp (maxSteps := 1000000) only [tSeq, tIfS, tTest, tOp, tUn, tCB, tCons, tNil, tVar, tC, rI0, rI, rU, rEq, rNe, tRet, tRetN, tAsg, gName, gSub, tBM, tBM0, tNext, tB, tNot, tAnd, tOr, tIf, tCall, tDrop, tBreak, tCont, L2.start, tDGet, sDPut, tTup, tLst, tDNewK, tRevL, rCat, rAppend, rPop, rSetL, tAndV, tOrV, tNotV, tSl, tPart, tNoPart, tM1, gTup, gCons, gNil, cxK, cxnK, List.map_cons, List.map_nil, List.length_cons, List.length_nil, List.replicate, List.cons_append, List.nil_append, List.append_nil, List.set_cons_zero, List.set_cons_succ, List.getElem?_cons_zero, List.getElem?_cons_succ, Option.some.injEq, V.ref.injEq, V.int.injEq, V.str.injEq, V.bl.injEq, V.ty.injEq, exists_eq_left', exists_eq_left, exists_and_left, List.cons.injEq, and_true, true_and, sc_ii, sc_ss, sc_bb, sc_ni, sc_in, sc_is, sc_si, sc_nn, decide_true, decide_false, reduceCtorEq, Bool.false_eq_true, if_true, if_false, ite_true, ite_false, exists_const, eq_self, false_and, and_false, or_false, false_or, exists_false, Evl.rLenS, rSum, wipe, tYes, exists_eq, exists_eq', rIxL, rIxT, rIxS, exists_and_right, gt_iff_lt, not_true_eq_false, not_false_eq_true, Bool.not_true, Bool.not_false, decide_eq_true_eq, Nat.reduceSub, Nat.reduceAdd, List.append_assoc, tChain, tDIn, tDNotIn, sDDel, tAug, ipI, rInt1_int, rInt1_bl]
      refine ⟨.ty "ValueError", .type "ValueError", true, NS, x, _, rfl, fun u h => h, rfl, rfl, hx, T.N.kc, T.N.e2, true, rfl, ?_⟩
      try simp (maxSteps := 1000000) only [tSeq, tIfS, tTest, tOp, tUn, tCB, tCons, tNil, tVar, tC, rI0, rI, rU, rEq, rNe, tRet, tRetN, tAsg, gName, gSub, tBM, tBM0, tNext, tB, tNot, tAnd, tOr, tIf, tCall, tDrop, tBreak, tCont, L2.start, tDGet, sDPut, tTup, tLst, tDNewK, tRevL, rCat, rAppend, rPop, rSetL, tAndV, tOrV, tNotV, tSl, tPart, tNoPart, tM1, gTup, gCons, gNil, cxK, cxnK, List.map_cons, List.map_nil, List.length_cons, List.length_nil, List.replicate, List.cons_append, List.nil_append, List.append_nil, List.set_cons_zero, List.set_cons_succ, List.getElem?_cons_zero, List.getElem?_cons_succ, Option.some.injEq, V.ref.injEq, V.int.injEq, V.str.injEq, V.bl.injEq, V.ty.injEq, exists_eq_left', exists_eq_left, exists_and_left, List.cons.injEq, and_true, true_and, sc_ii, sc_ss, sc_bb, sc_ni, sc_in, sc_is, sc_si, sc_nn, decide_true, decide_false, reduceCtorEq, Bool.false_eq_true, if_true, if_false, ite_true, ite_false, exists_const, eq_self, false_and, and_false, or_false, false_or, exists_false, Evl.rLenS, rSum, wipe, tYes, exists_eq, exists_eq', rIxL, rIxT, rIxS, exists_and_right, gt_iff_lt, not_true_eq_false, not_false_eq_true, Bool.not_true, Bool.not_false, decide_eq_true_eq, Nat.reduceSub, Nat.reduceAdd, List.append_assoc, tChain, tDIn, tDNotIn, sDDel, tAug, ipI, rInt1_int, rInt1_bl]
      refine ⟨.ref BW, .ref BW, false, NS, x, _, rfl, fun u h => h, rfl, rfl, hx, T.N.kc, T.N.e3, false, rfl, ?_⟩
      try simp (maxSteps := 1000000) only [tSeq, tIfS, tTest, tOp, tUn, tCB, tCons, tNil, tVar, tC, rI0, rI, rU, rEq, rNe, tRet, tRetN, tAsg, gName, gSub, tBM, tBM0, tNext, tB, tNot, tAnd, tOr, tIf, tCall, tDrop, tBreak, tCont, L2.start, tDGet, sDPut, tTup, tLst, tDNewK, tRevL, rCat, rAppend, rPop, rSetL, tAndV, tOrV, tNotV, tSl, tPart, tNoPart, tM1, gTup, gCons, gNil, cxK, cxnK, List.map_cons, List.map_nil, List.length_cons, List.length_nil, List.replicate, List.cons_append, List.nil_append, List.append_nil, List.set_cons_zero, List.set_cons_succ, List.getElem?_cons_zero, List.getElem?_cons_succ, Option.some.injEq, V.ref.injEq, V.int.injEq, V.str.injEq, V.bl.injEq, V.ty.injEq, exists_eq_left', exists_eq_left, exists_and_left, List.cons.injEq, and_true, true_and, sc_ii, sc_ss, sc_bb, sc_ni, sc_in, sc_is, sc_si, sc_nn, decide_true, decide_false, reduceCtorEq, Bool.false_eq_true, if_true, if_false, ite_true, ite_false, exists_const, eq_self, false_and, and_false, or_false, false_or, exists_false, Evl.rLenS, rSum, wipe, tYes, exists_eq, exists_eq', rIxL, rIxT, rIxS, exists_and_right, gt_iff_lt, not_true_eq_false, not_false_eq_true, Bool.not_true, Bool.not_false, decide_eq_true_eq, Nat.reduceSub, Nat.reduceAdd, List.append_assoc, tChain, tDIn, tDNotIn, sDDel, tAug, ipI, rInt1_int, rInt1_bl, tXf, tCallS]
      exact ⟨_, hx, v, rfl, v, v, rfl, hsame, q _ k1⟩
end
end My

set_option Elab.async false
set_option linter.all false
set_option maxRecDepth 100000
set_option maxHeartbeats 4000000
namespace My
open PySem L2 NdefX
section
variable {P : Program} {w : World} {K : PySem.W.Frag} {mg : Str → Option Value} {base : Heap} {t1 : Tok} {WC NS BW TL CE : Addr}
def spRefd : Sp := fun vs H Q _ => ∃ (a : Addr) (i : Nat) (us : List V) (rows : List (List PyData)), vs = [.ref a, .int (i : Nat)] ∧ H a = some (.lst us) ∧ Rw (RwD H) us rows ∧ 1 ≤ rows.length ∧ rows.length ≤ 4000 ∧ (∀ ds ∈ rows, szAll ds = true ∧ ds.length ≤ 100) ∧ (∃ ds, rows[i]? = some ds ∧ BadRw rows.length ds) ∧ (∀ j y, j < i → rows[j]? = some y → OkRw rows.length y) ∧ ∀ H', Kp [] H H' → Q (.bl true) H'
theorem ok_law_refused {f : Addr} {fd : FuncData} (D : Df K mg "_law_refused" s_law_refused ["_law_rows_here", "_law_at"] f fd) (T : BtE1 K mg CE NS BW TL) (C : WbC K mg WC)
    {g2 : Addr} {gd2 : FuncData} (D_law_same : Df K mg "_law_same" s_law_same ["_law_told_here", "_law_due"] g2 gd2) (Z_law_same : FnZ P w K mg base CX0 1 g2 gd2 ["_law_told_here", "_law_due"] (spSame 0))
    {fI : Addr} {fdI : FuncData} (M_Web : Mk K WC fI) (bI_Web : Binds K fdI ["self", "rows"] []) (G_Web_init : FnOk P w K mg base (L2.CX P w) 5 fI fdI ["self", "rows"] (spWID WC TL BW)) : FnOk P w K mg base CX0 7 f fd ["_law_rows_here", "_law_at"] spRefd := by
  refine D.F.ok sc_law_refused (fun vs H Q E h => ?_) (fun cdv A outer s H vs Q E hr h => ?_)
  · obtain ⟨_, _, _, _, rfl, _⟩ := h
    rfl
  · obtain ⟨a, i, us, rows, rfl, ha, hus, l1, l2, hsz, ⟨ds, eds, hbad⟩, hok, q⟩ := h
    have XF_BadWeb := T.B.XF
    have NO_at := T.B.NO
    refine ⟨_, (pss_cons (ps_try_as (i := 2) rfl rfl sc_law_refused.nd rfl rfl ⟨rfl, by decide, .inl T.k_BadWeb⟩ takes0 (fun W pn xe tk _ => (pss_one (ps_expr (pe_makeS M_Web G_Web_init (hr.mono (by decide)) rfl C.k bI_Web .nil (fun σ => passAt tk σ) (pa_cons (pv 0) pa_nil))))) (fun a oe cls d pn hz hf => (pss_cons (ps_if (PW.pt (pw_or (pt_not (pt_val (pe_callB (id := "isinstance") (r := rIsX K a cls d) (call_isX hz hf) (by rfl) T.b_isinstance (by decide +kernel) (pa_cons (pv 2) (pa_cons (pe_glob (v := .ref CE) rfl T.k_CoreError rfl) pa_nil))))) (pw_or (pt_not (pt_val (pe_callB (id := "isinstance") (r := rIsX K a cls d) (call_isX hz hf) (by rfl) T.b_isinstance (by decide +kernel) (pa_cons (pv 2) (pa_cons (pe_bltn (v := .ty "ValueError") (by rfl) T.b_ValueError (by decide +kernel) rfl) pa_nil))))) (pw_or1 (pt_val (pe_callB (id := "isinstance") (r := rIsX K a cls d) (call_isX hz hf) (by rfl) T.b_isinstance (by decide +kernel) (pa_cons (pv 2) (pa_cons (pe_glob (v := .ref TL) rfl T.k_TooLarge rfl) pa_nil)))))))) (pss_one (ps_ret pe_bl)) pss_nil)
      (pss_one (ps_ret (pe_callZ Z_law_same (roomZ_mark (Room.mono (j := 1) hr (by decide))) rfl D_law_same.g D_law_same.F.kp D_law_same.b (fun σ pins H s e s' I h => pass0 pins σ H s e s' I h) (pa_cons (pe_xf XF_BadWeb NO_at hz hf (pv 2)) (pa_cons (pv 1) pa_nil))))))))
      (pss_one (ps_ret pe_bl))), ?_⟩
    try simp (maxSteps := 1000000) only [tSeq, tIfS, tTest, tOp, tUn, tCB, tCons, tNil, tVar, tC, rI0, rI, rU, rEq, rNe, tRet, tRetN, tAsg, gName, gSub, tBM, tBM0, tNext, tB, tNot, tAnd, tOr, tIf, tCall, tDrop, tBreak, tCont, L2.start, tDGet, sDPut, tTup, tLst, tDNewK, tRevL, rCat, rAppend, rPop, rSetL, tAndV, tOrV, tNotV, tSl, tPart, tNoPart, tM1, gTup, gCons, gNil, cxK, cxnK, List.map_cons, List.map_nil, List.length_cons, List.length_nil, List.replicate, List.cons_append, List.nil_append, List.append_nil, List.set_cons_zero, List.set_cons_succ, List.getElem?_cons_zero, List.getElem?_cons_succ, Option.some.injEq, V.ref.injEq, V.int.injEq, V.str.injEq, V.bl.injEq, V.ty.injEq, exists_eq_left', exists_eq_left, exists_and_left, List.cons.injEq, and_true, true_and, sc_ii, sc_ss, sc_bb, sc_ni, sc_in, sc_is, sc_si, sc_nn, decide_true, decide_false, reduceCtorEq, Bool.false_eq_true, if_true, if_false, ite_true, ite_false, exists_const, eq_self, false_and, and_false, or_false, false_or, exists_false, Evl.rLenS, rSum, wipe, tYes, exists_eq, exists_eq', rIxL, rIxT, rIxS, exists_and_right, gt_iff_lt, not_true_eq_false, not_false_eq_true, Bool.not_true, Bool.not_false, decide_eq_true_eq, Nat.reduceSub, Nat.reduceAdd, List.append_assoc, tChain, tDIn, tDNotIn, sDDel, tAug, ipI, rInt1_int, rInt1_bl, tMakeS]
    intro o dx no nd ne
    have k : Kp [] H (upd (upd H dx (.own o)) o (.ins WC dx [])) := (Kp.new nd).wr no
    refine ⟨o, dx, a, us, rows, rfl, upd_same, k _ _ not0 ha, hus.mono fun _ _ z => z.kp k, by omega, fun _ _ => hsz, fun mss srs H' _ _ em hg _ _ _ _ => ?_, fun h => absurd ⟨l1, l2⟩ h, fun i' ds' _ _ eds' hb hok' x H1 nx hx k1 => ?_⟩
    · exfalso
      rw [em, List.getElem?_map] at eds
      obtain ⟨ms, ems, rfl⟩ := Option.map_eq_some_iff.mp eds
      exact hbad ms rfl (hg ms (List.mem_of_getElem? ems))
    · have ii : i' = i := by
        rcases Nat.lt_trichotomy i' i with z | z | z
        · obtain ⟨ms, e, g⟩ := hok i' ds' z eds'
          exact absurd g (hb ms e)
        · exact z
        · obtain ⟨ms, e, g⟩ := hok' i ds z eds
          exact absurd g (hbad ms e)
      subst ii
      refine ⟨true, T.B.EX, fun _ y ny => ?_, fun z => by cases z⟩
      try simp (maxSteps := 1000000) only [tSeq, tIfS, tTest, tOp, tUn, tCB, tCons, tNil, tVar, tC, rI0, rI, rU, rEq, rNe, tRet, tRetN, tAsg, gName, gSub, tBM, tBM0, tNext, tB, tNot, tAnd, tOr, tIf, tCall, tDrop, tBreak, tCont, L2.start, tDGet, sDPut, tTup, tLst, tDNewK, tRevL, rCat, rAppend, rPop, rSetL, tAndV, tOrV, tNotV, tSl, tPart, tNoPart, tM1, gTup, gCons, gNil, cxK, cxnK, List.map_cons, List.map_nil, List.length_cons, List.length_nil, List.replicate, List.cons_append, List.nil_append, List.append_nil, List.set_cons_zero, List.set_cons_succ, List.getElem?_cons_zero, List.getElem?_cons_succ, Option.some.injEq, V.ref.injEq, V.int.injEq, V.str.injEq, V.bl.injEq, V.ty.injEq, exists_eq_left', exists_eq_left, exists_and_left, List.cons.injEq, and_true, true_and, sc_ii, sc_ss, sc_bb, sc_ni, sc_in, sc_is, sc_si, sc_nn, decide_true, decide_false, reduceCtorEq, Bool.false_eq_true, if_true, if_false, ite_true, ite_false, exists_const, eq_self, false_and, and_false, or_false, false_or, exists_false, Evl.rLenS, rSum, wipe, tYes, exists_eq, exists_eq', rIxL, rIxT, rIxS, exists_and_right, gt_iff_lt, not_true_eq_false, not_false_eq_true, Bool.not_true, Bool.not_false, decide_eq_true_eq, Nat.reduceSub, Nat.reduceAdd, List.append_assoc, tChain, tDIn, tDNotIn, sDDel, tAug, ipI, rInt1_int, rInt1_bl, tXf, tCallS]
      refine ⟨.ref CE, .ref CE, true, BW, x, _, rfl, fun u h => h, rfl, rfl, hx, T.B.kc, T.B.e1, true, rfl, ?_⟩
      try simp (maxSteps := 1000000) only [tSeq, tIfS, tTest, tOp, tUn, tCB, tCons, tNil, tVar, tC, rI0, rI, rU, rEq, rNe, tRet, tRetN, tAsg, gName, gSub, tBM, tBM0, tNext, tB, tNot, tAnd, tOr, tIf, tCall, tDrop, tBreak, tCont, L2.start, tDGet, sDPut, tTup, tLst, tDNewK, tRevL, rCat, rAppend, rPop, rSetL, tAndV, tOrV, tNotV, tSl, tPart, tNoPart, tM1, gTup, gCons, gNil, cxK, cxnK, List.map_cons, List.map_nil, List.length_cons, List.length_nil, List.replicate, List.cons_append, List.nil_append, List.append_nil, List.set_cons_zero, List.set_cons_succ, List.getElem?_cons_zero, List.getElem?_cons_succ, Option.some.injEq, V.ref.injEq, V.int.injEq, V.str.injEq, V.bl.injEq, V.ty.injEq, exists_eq_left', exists_eq_left, exists_and_left, List.cons.injEq, and_true, true_and, sc_ii, sc_ss, sc_bb, sc_ni, sc_in, sc_is, sc_si, sc_nn, decide_true, decide_false, reduceCtorEq, Bool.false_eq_true, if_true, if_false, ite_true, ite_false, exists_const, eq_self, false_and, and_false, or_false, false_or, exists_false, Evl.rLenS, rSum, wipe, tYes, exists_eq, exists_eq', rIxL, rIxT, rIxS, exists_and_right, gt_iff_lt, not_true_eq_false, not_false_eq_true, Bool.not_true, Bool.not_false, decide_eq_true_eq, Nat.reduceSub, Nat.reduceAdd, List.append_assoc, tChain, tDIn, tDNotIn, sDDel, tAug, ipI, rInt1_int, rInt1_bl]
      refine ⟨.ty "ValueError", .type "ValueError", true, BW, x, _, rfl, fun u h => h, rfl, rfl, hx, T.B.kc, T.B.e2, true, rfl, ?_⟩
      try simp (maxSteps := 1000000) only [tSeq, tIfS, tTest, tOp, tUn, tCB, tCons, tNil, tVar, tC, rI0, rI, rU, rEq, rNe, tRet, tRetN, tAsg, gName, gSub, tBM, tBM0, tNext, tB, tNot, tAnd, tOr, tIf, tCall, tDrop, tBreak, tCont, L2.start, tDGet, sDPut, tTup, tLst, tDNewK, tRevL, rCat, rAppend, rPop, rSetL, tAndV, tOrV, tNotV, tSl, tPart, tNoPart, tM1, gTup, gCons, gNil, cxK, cxnK, List.map_cons, List.map_nil, List.length_cons, List.length_nil, List.replicate, List.cons_append, List.nil_append, List.append_nil, List.set_cons_zero, List.set_cons_succ, List.getElem?_cons_zero, List.getElem?_cons_succ, Option.some.injEq, V.ref.injEq, V.int.injEq, V.str.injEq, V.bl.injEq, V.ty.injEq, exists_eq_left', exists_eq_left, exists_and_left, List.cons.injEq, and_true, true_and, sc_ii, sc_ss, sc_bb, sc_ni, sc_in, sc_is, sc_si, sc_nn, decide_true, decide_false, reduceCtorEq, Bool.false_eq_true, if_true, if_false, ite_true, ite_false, exists_const, eq_self, false_and, and_false, or_false, false_or, exists_false, Evl.rLenS, rSum, wipe, tYes, exists_eq, exists_eq', rIxL, rIxT, rIxS, exists_and_right, gt_iff_lt, not_true_eq_false, not_false_eq_true, Bool.not_true, Bool.not_false, decide_eq_true_eq, Nat.reduceSub, Nat.reduceAdd, List.append_assoc, tChain, tDIn, tDNotIn, sDDel, tAug, ipI, rInt1_int, rInt1_bl]
      refine ⟨.ref TL, .ref TL, false, BW, x, _, rfl, fun u h => h, rfl, rfl, hx, T.B.kc, T.B.e3, false, rfl, ?_⟩
      try simp (maxSteps := 1000000) only [tSeq, tIfS, tTest, tOp, tUn, tCB, tCons, tNil, tVar, tC, rI0, rI, rU, rEq, rNe, tRet, tRetN, tAsg, gName, gSub, tBM, tBM0, tNext, tB, tNot, tAnd, tOr, tIf, tCall, tDrop, tBreak, tCont, L2.start, tDGet, sDPut, tTup, tLst, tDNewK, tRevL, rCat, rAppend, rPop, rSetL, tAndV, tOrV, tNotV, tSl, tPart, tNoPart, tM1, gTup, gCons, gNil, cxK, cxnK, List.map_cons, List.map_nil, List.length_cons, List.length_nil, List.replicate, List.cons_append, List.nil_append, List.append_nil, List.set_cons_zero, List.set_cons_succ, List.getElem?_cons_zero, List.getElem?_cons_succ, Option.some.injEq, V.ref.injEq, V.int.injEq, V.str.injEq, V.bl.injEq, V.ty.injEq, exists_eq_left', exists_eq_left, exists_and_left, List.cons.injEq, and_true, true_and, sc_ii, sc_ss, sc_bb, sc_ni, sc_in, sc_is, sc_si, sc_nn, decide_true, decide_false, reduceCtorEq, Bool.false_eq_true, if_true, if_false, ite_true, ite_false, exists_const, eq_self, false_and, and_false, or_false, false_or, exists_false, Evl.rLenS, rSum, wipe, tYes, exists_eq, exists_eq', rIxL, rIxT, rIxS, exists_and_right, gt_iff_lt, not_true_eq_false, not_false_eq_true, Bool.not_true, Bool.not_false, decide_eq_true_eq, Nat.reduceSub, Nat.reduceAdd, List.append_assoc, tChain, tDIn, tDNotIn, sDDel, tAug, ipI, rInt1_int, rInt1_bl, tXf, tCallS]
      exact ⟨_, hx, .int (i' : Nat), rfl, _, _, rfl, .inl ⟨_, rfl, rfl⟩, q _ (k.trans k1)⟩
def spTooL : Sp := fun vs H Q _ => ∃ (a : Addr) (us : List V) (rows : List (List PyData)), vs = [.ref a] ∧ H a = some (.lst us) ∧ Rw (RwD H) us rows ∧ rows.length ≤ 5000 ∧ ¬ (1 ≤ rows.length ∧ rows.length ≤ 4000) ∧ ∀ H', Kp [] H H' → Q (.bl true) H'
theorem ok_law_too_large {f : Addr} {fd : FuncData} (D : Df K mg "_law_too_large" s_law_too_large ["_law_rows_here"] f fd) (T : BtE1 K mg CE NS BW TL) (C : WbC K mg WC)
    {g2 : Addr} {gd2 : FuncData} (D_law_same : Df K mg "_law_same" s_law_same ["_law_told_here", "_law_due"] g2 gd2) (Z_law_same : FnZ P w K mg base CX0 1 g2 gd2 ["_law_told_here", "_law_due"] (spSame 0))
    {fI : Addr} {fdI : FuncData} (M_Web : Mk K WC fI) (bI_Web : Binds K fdI ["self", "rows"] []) (G_Web_init : FnOk P w K mg base (L2.CX P w) 5 fI fdI ["self", "rows"] (spWID WC TL BW)) : FnOk P w K mg base CX0 7 f fd ["_law_rows_here"] spTooL := by
  refine D.F.ok sc_law_too_large (fun vs H Q E h => ?_) (fun cdv A outer s H vs Q E hr h => ?_)
  · obtain ⟨_, _, _, rfl, _⟩ := h
    rfl
  · obtain ⟨a, us, rows, rfl, ha, hus, l5, hbad, q⟩ := h
    have XF_TooLarge := T.L.XF
    have NO_bound := T.L.NO
    refine ⟨_, (pss_cons (ps_try_as (i := 1) rfl rfl sc_law_too_large.nd rfl rfl ⟨rfl, by decide, .inl T.k_TooLarge⟩ takes0 (fun W pn xe tk _ => (pss_one (ps_expr (pe_makeS M_Web G_Web_init (hr.mono (by decide)) rfl C.k bI_Web .nil (fun σ => passAt tk σ) (pa_cons (pv 0) pa_nil))))) (fun a oe cls d pn hz hf => (pss_cons (ps_if (PW.pt (pw_or (pt_not (pt_val (pe_callB (id := "isinstance") (r := rIsX K a cls d) (call_isX hz hf) (by rfl) T.b_isinstance (by decide +kernel) (pa_cons (pv 1) (pa_cons (pe_glob (v := .ref CE) rfl T.k_CoreError rfl) pa_nil))))) (pw_or (pt_not (pt_val (pe_callB (id := "isinstance") (r := rIsX K a cls d) (call_isX hz hf) (by rfl) T.b_isinstance (by decide +kernel) (pa_cons (pv 1) (pa_cons (pe_bltn (v := .ty "ValueError") (by rfl) T.b_ValueError (by decide +kernel) rfl) pa_nil))))) (pw_or1 (pt_val (pe_callB (id := "isinstance") (r := rIsX K a cls d) (call_isX hz hf) (by rfl) T.b_isinstance (by decide +kernel) (pa_cons (pv 1) (pa_cons (pe_glob (v := .ref BW) rfl T.k_BadWeb rfl) pa_nil)))))))) (pss_one (ps_ret pe_bl)) pss_nil)
      (pss_one (ps_ret (pe_callZ Z_law_same (roomZ_mark (Room.mono (j := 1) hr (by decide))) rfl D_law_same.g D_law_same.F.kp D_law_same.b (fun σ pins H s e s' I h => pass0 pins σ H s e s' I h) (pa_cons (pe_xf XF_TooLarge NO_bound hz hf (pv 1)) (pa_cons pe_int pa_nil))))))))
      (pss_one (ps_ret pe_bl))), ?_⟩
    try simp (maxSteps := 1000000) only [tSeq, tIfS, tTest, tOp, tUn, tCB, tCons, tNil, tVar, tC, rI0, rI, rU, rEq, rNe, tRet, tRetN, tAsg, gName, gSub, tBM, tBM0, tNext, tB, tNot, tAnd, tOr, tIf, tCall, tDrop, tBreak, tCont, L2.start, tDGet, sDPut, tTup, tLst, tDNewK, tRevL, rCat, rAppend, rPop, rSetL, tAndV, tOrV, tNotV, tSl, tPart, tNoPart, tM1, gTup, gCons, gNil, cxK, cxnK, List.map_cons, List.map_nil, List.length_cons, List.length_nil, List.replicate, List.cons_append, List.nil_append, List.append_nil, List.set_cons_zero, List.set_cons_succ, List.getElem?_cons_zero, List.getElem?_cons_succ, Option.some.injEq, V.ref.injEq, V.int.injEq, V.str.injEq, V.bl.injEq, V.ty.injEq, exists_eq_left', exists_eq_left, exists_and_left, List.cons.injEq, and_true, true_and, sc_ii, sc_ss, sc_bb, sc_ni, sc_in, sc_is, sc_si, sc_nn, decide_true, decide_false, reduceCtorEq, Bool.false_eq_true, if_true, if_false, ite_true, ite_false, exists_const, eq_self, false_and, and_false, or_false, false_or, exists_false, Evl.rLenS, rSum, wipe, tYes, exists_eq, exists_eq', rIxL, rIxT, rIxS, exists_and_right, gt_iff_lt, not_true_eq_false, not_false_eq_true, Bool.not_true, Bool.not_false, decide_eq_true_eq, Nat.reduceSub, Nat.reduceAdd, List.append_assoc, tChain, tDIn, tDNotIn, sDDel, tAug, ipI, rInt1_int, rInt1_bl, tMakeS]
    intro o dx no nd ne
    have k : Kp [] H (upd (upd H dx (.own o)) o (.ins WC dx [])) := (Kp.new nd).wr no
    refine ⟨o, dx, a, us, rows, rfl, upd_same, k _ _ not0 ha, hus.mono fun _ _ z => z.kp k, by omega, fun a b => absurd ⟨a, b⟩ hbad, fun mss srs H' a b _ _ _ _ _ _ => absurd ⟨a, b⟩ hbad, fun h x H1 nx hx k1 => ?_, fun i' ds' a b => absurd ⟨a, b⟩ hbad⟩
    · skip
      refine ⟨true, T.L.EX, fun _ y ny => ?_, fun z => by cases z⟩
      try simp (maxSteps := 1000000) only [tSeq, tIfS, tTest, tOp, tUn, tCB, tCons, tNil, tVar, tC, rI0, rI, rU, rEq, rNe, tRet, tRetN, tAsg, gName, gSub, tBM, tBM0, tNext, tB, tNot, tAnd, tOr, tIf, tCall, tDrop, tBreak, tCont, L2.start, tDGet, sDPut, tTup, tLst, tDNewK, tRevL, rCat, rAppend, rPop, rSetL, tAndV, tOrV, tNotV, tSl, tPart, tNoPart, tM1, gTup, gCons, gNil, cxK, cxnK, List.map_cons, List.map_nil, List.length_cons, List.length_nil, List.replicate, List.cons_append, List.nil_append, List.append_nil, List.set_cons_zero, List.set_cons_succ, List.getElem?_cons_zero, List.getElem?_cons_succ, Option.some.injEq, V.ref.injEq, V.int.injEq, V.str.injEq, V.bl.injEq, V.ty.injEq, exists_eq_left', exists_eq_left, exists_and_left, List.cons.injEq, and_true, true_and, sc_ii, sc_ss, sc_bb, sc_ni, sc_in, sc_is, sc_si, sc_nn, decide_true, decide_false, reduceCtorEq, Bool.false_eq_true, if_true, if_false, ite_true, ite_false, exists_const, eq_self, false_and, and_false, or_false, false_or, exists_false, Evl.rLenS, rSum, wipe, tYes, exists_eq, exists_eq', rIxL, rIxT, rIxS, exists_and_right, gt_iff_lt, not_true_eq_false, not_false_eq_true, Bool.not_true, Bool.not_false, decide_eq_true_eq, Nat.reduceSub, Nat.reduceAdd, List.append_assoc, tChain, tDIn, tDNotIn, sDDel, tAug, ipI, rInt1_int, rInt1_bl, tXf, tCallS]
      refine ⟨.ref CE, .ref CE, true, TL, x, _, rfl, fun u h => h, rfl, rfl, hx, T.L.kc, T.L.e1, true, rfl, ?_⟩
      try simp (maxSteps := 1000000) only [tSeq, tIfS, tTest, tOp, tUn, tCB, tCons, tNil, tVar, tC, rI0, rI, rU, rEq, rNe, tRet, tRetN, tAsg, gName, gSub, tBM, tBM0, tNext, tB, tNot, tAnd, tOr, tIf, tCall, tDrop, tBreak, tCont, L2.start, tDGet, sDPut, tTup, tLst, tDNewK, tRevL, rCat, rAppend, rPop, rSetL, tAndV, tOrV, tNotV, tSl, tPart, tNoPart, tM1, gTup, gCons, gNil, cxK, cxnK, List.map_cons, List.map_nil, List.length_cons, List.length_nil, List.replicate, List.cons_append, List.nil_append, List.append_nil, List.set_cons_zero, List.set_cons_succ, List.getElem?_cons_zero, List.getElem?_cons_succ, Option.some.injEq, V.ref.injEq, V.int.injEq, V.str.injEq, V.bl.injEq, V.ty.injEq, exists_eq_left', exists_eq_left, exists_and_left, List.cons.injEq, and_true, true_and, sc_ii, sc_ss, sc_bb, sc_ni, sc_in, sc_is, sc_si, sc_nn, decide_true, decide_false, reduceCtorEq, Bool.false_eq_true, if_true, if_false, ite_true, ite_false, exists_const, eq_self, false_and, and_false, or_false, false_or, exists_false, Evl.rLenS, rSum, wipe, tYes, exists_eq, exists_eq', rIxL, rIxT, rIxS, exists_and_right, gt_iff_lt, not_true_eq_false, not_false_eq_true, Bool.not_true, Bool.not_false, decide_eq_true_eq, Nat.reduceSub, Nat.reduceAdd, List.append_assoc, tChain, tDIn, tDNotIn, sDDel, tAug, ipI, rInt1_int, rInt1_bl]
      refine ⟨.ty "ValueError", .type "ValueError", true, TL, x, _, rfl, fun u h => h, rfl, rfl, hx, T.L.kc, T.L.e2, true, rfl, ?_⟩
      try simp (maxSteps := 1000000) only [tSeq, tIfS, tTest, tOp, tUn, tCB, tCons, tNil, tVar, tC, rI0, rI, rU, rEq, rNe, tRet, tRetN, tAsg, gName, gSub, tBM, tBM0, tNext, tB, tNot, tAnd, tOr, tIf, tCall, tDrop, tBreak, tCont, L2.start, tDGet, sDPut, tTup, tLst, tDNewK, tRevL, rCat, rAppend, rPop, rSetL, tAndV, tOrV, tNotV, tSl, tPart, tNoPart, tM1, gTup, gCons, gNil, cxK, cxnK, List.map_cons, List.map_nil, List.length_cons, List.length_nil, List.replicate, List.cons_append, List.nil_append, List.append_nil, List.set_cons_zero, List.set_cons_succ, List.getElem?_cons_zero, List.getElem?_cons_succ, Option.some.injEq, V.ref.injEq, V.int.injEq, V.str.injEq, V.bl.injEq, V.ty.injEq, exists_eq_left', exists_eq_left, exists_and_left, List.cons.injEq, and_true, true_and, sc_ii, sc_ss, sc_bb, sc_ni, sc_in, sc_is, sc_si, sc_nn, decide_true, decide_false, reduceCtorEq, Bool.false_eq_true, if_true, if_false, ite_true, ite_false, exists_const, eq_self, false_and, and_false, or_false, false_or, exists_false, Evl.rLenS, rSum, wipe, tYes, exists_eq, exists_eq', rIxL, rIxT, rIxS, exists_and_right, gt_iff_lt, not_true_eq_false, not_false_eq_true, Bool.not_true, Bool.not_false, decide_eq_true_eq, Nat.reduceSub, Nat.reduceAdd, List.append_assoc, tChain, tDIn, tDNotIn, sDDel, tAug, ipI, rInt1_int, rInt1_bl]
      refine ⟨.ref BW, .ref BW, false, TL, x, _, rfl, fun u h => h, rfl, rfl, hx, T.L.kc, T.L.e3, false, rfl, ?_⟩
      try simp (maxSteps := 1000000) only [tSeq, tIfS, tTest, tOp, tUn, tCB, tCons, tNil, tVar, tC, rI0, rI, rU, rEq, rNe, tRet, tRetN, tAsg, gName, gSub, tBM, tBM0, tNext, tB, tNot, tAnd, tOr, tIf, tCall, tDrop, tBreak, tCont, L2.start, tDGet, sDPut, tTup, tLst, tDNewK, tRevL, rCat, rAppend, rPop, rSetL, tAndV, tOrV, tNotV, tSl, tPart, tNoPart, tM1, gTup, gCons, gNil, cxK, cxnK, List.map_cons, List.map_nil, List.length_cons, List.length_nil, List.replicate, List.cons_append, List.nil_append, List.append_nil, List.set_cons_zero, List.set_cons_succ, List.getElem?_cons_zero, List.getElem?_cons_succ, Option.some.injEq, V.ref.injEq, V.int.injEq, V.str.injEq, V.bl.injEq, V.ty.injEq, exists_eq_left', exists_eq_left, exists_and_left, List.cons.injEq, and_true, true_and, sc_ii, sc_ss, sc_bb, sc_ni, sc_in, sc_is, sc_si, sc_nn, decide_true, decide_false, reduceCtorEq, Bool.false_eq_true, if_true, if_false, ite_true, ite_false, exists_const, eq_self, false_and, and_false, or_false, false_or, exists_false, Evl.rLenS, rSum, wipe, tYes, exists_eq, exists_eq', rIxL, rIxT, rIxS, exists_and_right, gt_iff_lt, not_true_eq_false, not_false_eq_true, Bool.not_true, Bool.not_false, decide_eq_true_eq, Nat.reduceSub, Nat.reduceAdd, List.append_assoc, tChain, tDIn, tDNotIn, sDDel, tAug, ipI, rInt1_int, rInt1_bl, tXf, tCallS]
      exact ⟨_, hx, .int 4000, rfl, _, _, rfl, .inl ⟨_, rfl, rfl⟩, q _ (k.trans k1)⟩
end
end My

set_option Elab.async false
set_option linter.all false
set_option maxRecDepth 100000
set_option maxHeartbeats 4000000
namespace My
open PySem L2 NdefX
abbrev s_law_kept : Stmt := top 30
theorem sc_law_kept : FnScope ["_law_rows_here", "_law_handed", "_law_web", "_law_at"] ["_law_rows_here"] (defScope s_law_kept) := ⟨rfl, rfl, rfl, by decide +kernel, rfl, by decide +kernel, by decide +kernel⟩
theorem Kp.own {H G H' : Hp} {o : Addr} (k : Kp [] H G) (k2 : Kp [o] G H') (no : H o = none) : Kp [] H H' := fun c u _ e => k2 c u (not1 (ne_of_none e no)) (k c u not0 e)
theorem rwDq {H : Hp} : ∀ {ms : List Mv} {us : List V}, Rw (TM H) us ms → DqAll H us (ms.map mvD)
  | [], us, h => by rw [h.isNil]; exact .nil
  | m :: ms, us, h => by
    obtain ⟨u, us', rfl, ⟨a, t, rfl, h1, h2⟩, t2⟩ := h.ex
    exact .cons (.tup h1 (.cons h2.dq (.cons (.int _) .nil))) (rwDq t2)
theorem RwAt.dq {H : Hp} {v : V} {ms : List Mv} (h : RwAt H v ms) : RwD H v (ms.map mvD) := by
  obtain ⟨a, us, e, h, r⟩ := h
  exact ⟨a, us, e, h, rwDq r⟩
theorem szMv {m : Mv} (h : GoodDd m.1) : szD (mvD m) = true := by
  obtain ⟨⟨c, w, k⟩, g⟩ := m
  obtain ⟨_, _, h⟩ := h
  have hw : decide (w.length ≤ 1000) = true ∧ szD (kD k) = true := by
    rcases h with ⟨hw, z, hx, hz⟩ | ⟨hw, i, hx, _⟩
    · have hw : w = ("call" : Str) := hw
      have hx : k = .inr z := hx
      subst hw; subst hx
      unfold nameS at hz
      rw [Bool.and_eq_true, Bool.and_eq_true, decide_eq_true_eq, decide_eq_true_eq] at hz
      exact ⟨by decide +kernel, decide_eq_true (show z.length ≤ 1000 by omega)⟩
    · have hx : k = .inl i := hx
      subst hx
      refine ⟨?_, rfl⟩
      rcases hw with hw | hw
      · have hw : w = ("return" : Str) := hw
        subst hw; decide +kernel
      · have hw : w = ("step" : Str) := hw
        subst hw; decide +kernel
  show ((true && (decide (w.length ≤ 1000) && (szD (kD k) && true))) && (true && true)) = true
  rw [hw.1, hw.2]; rfl
theorem szMs : ∀ {ms : List Mv}, (∀ m ∈ ms, GoodDd m.1) → szAll (ms.map mvD) = true
  | [], _ => rfl
  | m :: ms, h => by
    show (szD (mvD m) && szAll (ms.map mvD)) = true
    rw [szMv (h m (by simp)), szMs fun x hx => h x (by simp [hx])]; rfl
theorem SrRel.rfl_len {rows srs : List (List Mv)} (h : SrRel rows srs) : srs.length = rows.length := h.len
/-- Web(a list of good rows) -/
theorem mkWebG {WC TL BW : Addr} {ta : TA} {σ : L2.St} {H : Hp} {Q : VK} {E : XK} (rows : List (List Mv)) (hE : True) (ht : ∀ R : List V → Hp → Prop, (∀ aa us H1, H1 aa = some (.lst us) → Rw (RwAt H1) us rows → Kp [] H H1 → R [.ref aa] H1) → ta σ H R) (l1 : 1 ≤ rows.length) (l2 : rows.length ≤ 4000) (hg : ∀ r ∈ rows, GoodRw rows.length r)
    (q : ∀ o srs H1 H', Kp [] H H1 → SrRel rows srs → WebAt WC H' o srs → (∀ S H2, (∀ x ∈ S, ∃ ys, H1 x = some (.lst ys)) → Kp S H' H2 → WebAt WC H2 o srs) → Kp [] H1 H' → Q (.ref o) H') : tMake WC (spWID WC TL BW) [] E ta σ H Q :=
  ht _ fun aa us H1 h hr k x dx nx ndx ne => by
    have kk : Kp [] H1 (upd (upd H1 dx (.own x)) x (.ins WC dx [])) := (Kp.new ndx).wr nx
    refine ⟨x, dx, aa, us, rows.map (·.map mvD), rfl, upd_same, kk _ _ not0 h, ⟨by rw [hr.len, List.length_map], fun {i u} e => ?_⟩, by rw [List.length_map]; omega, fun _ _ ds hds => ?_, fun mss srs H' _ _ em hgm hs hw hS k2 => ?_, fun hb => ?_, fun i ds _ _ eds hb => ?_⟩
    · obtain ⟨ms, es, hm⟩ := hr.get e
      exact ⟨ms.map mvD, by rw [List.getElem?_map, es]; rfl, (hm.kd kk.kd).dq⟩
    · obtain ⟨ms, hms, rfl⟩ := List.mem_map.mp hds
      exact ⟨szMs (hg ms hms).deed, by rw [List.length_map]; exact (hg ms hms).len⟩
    · have e : mss = rows := by
        have : ∀ {a b : List (List Mv)}, a.map (·.map mvD) = b.map (·.map mvD) → a = b := by
          intro a
          induction a with
          | nil => intro b h; cases b with
            | nil => rfl
            | cons _ _ => cases h
          | cons x a ih => intro b h; cases b with
            | nil => cases h
            | cons y b =>
              rw [List.map_cons, List.map_cons] at h
              injection h with h1 h2
              rw [maps_inj h1, ih h2]
        exact this em.symm
      subst e
      refine ⟨rfl, q x srs H1 H' k hs hw (fun S H2 hSS k3 => hS S H2 (fun y hy => ?_) k3) (Kp.own kk k2 nx)⟩
      obtain ⟨ys, ey⟩ := hSS y hy
      exact ⟨ys, kk _ _ not0 ey⟩
    · rw [List.length_map] at hb
      exact absurd ⟨l1, l2⟩ hb
    · rw [List.getElem?_map] at eds
      obtain ⟨ms, ems, rfl⟩ := Option.map_eq_some_iff.mp eds
      rw [List.length_map] at hb
      exact absurd (hg ms (List.mem_of_getElem? ems)) (hb ms rfl)
section
variable {P : Program} {w : World} {K : PySem.W.Frag} {mg : Str → Option Value} {base : Heap} {t1 : Tok} {WC NS BW TL CE : Addr}
def spKept : Sp := fun vs H Q _ => ∃ (a : Addr) (rs : List V) (rows : List (List Mv)), vs = [.ref a] ∧ H a = some (.lst rs) ∧ Rw (RwAt H) rs rows ∧ 1 ≤ rows.length ∧ rows.length ≤ 100 ∧ (∀ r ∈ rows, GoodRw rows.length r) ∧ ∀ H', Kp [] H H' → Q (.bl true) H'
theorem ok_law_kept {f : Addr} {fd : FuncData} (D : Df K mg "_law_kept" s_law_kept ["_law_rows_here"] f fd) (T : BtO mg) (C : WbC K mg WC)
    {gy : Addr} {gdy : FuncData} (D_law_copy : Df K mg "_law_copy" s_law_copy ["_law_rows_here"] gy gdy) (G_law_copy : FnOk P w K mg base CX0 1 gy gdy ["_law_rows_here"] spCopy)
    {g2 : Addr} {gd2 : FuncData} (D_law_same : Df K mg "_law_same" s_law_same ["_law_told_here", "_law_due"] g2 gd2) (G_law_same : FnOk P w K mg base CX0 5 g2 gd2 ["_law_told_here", "_law_due"] (spSame 4))
    {g3 : Addr} {gd3 : FuncData} (D_law_told : Df K mg "_law_told" s_law_told ["_law_web", "_law_rows_here"] g3 gd3) (G_law_told : FnOk P w K mg base CX0 5 g3 gd3 ["_law_web", "_law_rows_here"] (spTold WC))
    {g4 : Addr} {gd4 : FuncData} (D_law_no_standing : Df K mg "_law_no_standing" s_law_no_standing ["_law_web", "_law_at"] g4 gd4) (G_law_no_standing : FnOk P w K mg base CX0 5 g4 gd4 ["_law_web", "_law_at"] (spNoSt WC))
    {fI : Addr} {fdI : FuncData} (M_Web : Mk K WC fI) (bI_Web : Binds K fdI ["self", "rows"] []) (G_Web_init : FnOk P w K mg base (L2.CX P w) 5 fI fdI ["self", "rows"] (spWID WC TL BW)) : FnOk P w K mg base CX0 7 f fd ["_law_rows_here"] spKept := by
  refine D.F.ok sc_law_kept (fun vs H Q E h => ?_) (fun cdv A outer s H vs Q E hr h => ?_)
  · obtain ⟨_, _, _, rfl, _⟩ := h
    rfl
  · obtain ⟨a, rs, rows, rfl, ha, hrs, l1, l2, hg, q⟩ := h
    refine ⟨_, (pss_cons (ps_set (i := 1) sc_law_kept.nd rfl (Or.inl rfl) (pe_call G_law_copy (hr.mono (by decide)) rfl D_law_copy.g D_law_copy.F.kp D_law_copy.b .nil pass0 (pa_cons (pv 0) pa_nil)))
      (pss_cons (ps_set (i := 2) sc_law_kept.nd rfl (Or.inl rfl) (pe_make M_Web G_Web_init (hr.mono (by decide)) rfl C.k bI_Web .nil passL (pa_cons (pv 1) pa_nil)))
      (pss_cons (ps_if (PW.pt (pw_or (pt_not (pt_val (pe_call G_law_same (hr.mono (by decide)) rfl D_law_same.g D_law_same.F.kp D_law_same.b .nil pass0 (pa_cons (pv 1) (pa_cons (pv 0) pa_nil))))) (pw_or1 (pt_not (pt_val (pe_call G_law_told (hr.mono (by decide)) rfl D_law_told.g D_law_told.F.kp D_law_told.b .nil pass0 (pa_cons (pv 2) (pa_cons (pv 0) pa_nil)))))))) (pss_one (ps_ret pe_bl)) pss_nil)
      (pss_cons (ps_expr (pe_bm PySem.F.plainAttrs_list PySem.F.slot_list_append PySem.F.type_list_append mt_append (pe_ix (r := rIxL K) ix_list (pv 1) pe_int (fun _ _ => rfl)) (pa_cons pe_non pa_nil)))
      (pss_cons (ps_expr (pe_bm0 PySem.F.plainAttrs_list PySem.F.slot_list_clear PySem.F.type_list_clear mt_clear (pe_ix (r := rIxL K) ix_list (pv 1) (pe_op op_sub (pe_callB (id := "len") (r := Evl.rLenS K) call_len_seq (by rfl) T.b_len PySem.boot_len (pa_cons (pv 0) pa_nil)) pe_int) (fun _ _ => rfl))))
      (pss_cons (ps_expr (pe_bm PySem.F.plainAttrs_list PySem.F.slot_list_append PySem.F.type_list_append mt_append (pv 1) (pa_cons (pe_lst pa_nil) pa_nil)))
      (pss_cons (ps_for PassesOwn.never rfl (pi_list (pe_lst (pa_cons (pe_un un_neg pe_int) (pa_cons (pe_callB (id := "len") (r := Evl.rLenS K) call_len_seq (by rfl) T.b_len PySem.boot_len (pa_cons (pv 0) pa_nil)) (pa_cons (pe_op op_add (pe_callB (id := "len") (r := Evl.rLenS K) call_len_seq (by rfl) T.b_len PySem.boot_len (pa_cons (pv 0) pa_nil)) pe_int) (pa_cons pe_bl (pa_cons pe_bl pa_nil))))))) (pg_name (i := 3) sc_law_kept.nd rfl (Or.inl rfl)) (pss_one (ps_if (pt_not (pt_val (pe_call G_law_no_standing (hr.mono (by decide)) rfl D_law_no_standing.g D_law_no_standing.F.kp D_law_no_standing.b .nil pass0 (pa_cons (pv 2) (pa_cons (pv 3) pa_nil))))) (pss_one (ps_ret pe_bl)) pss_nil)))
      (pss_one (ps_ret (pe_call G_law_told (hr.mono (by decide)) rfl D_law_told.g D_law_told.F.kp D_law_told.b .nil pass0 (pa_cons (pv 2) (pa_cons (pv 0) pa_nil)))))))))))), ?_⟩
    try simp (maxSteps := 1000000) only [tSeq, tIfS, tTest, tOp, tUn, tCB, tCons, tNil, tVar, tC, rI0, rI, rU, rEq, rNe, tRet, tRetN, tAsg, gName, gSub, tBM, tBM0, tNext, tB, tNot, tAnd, tOr, tIf, tCall, tDrop, tBreak, tCont, L2.start, tDGet, sDPut, tTup, tLst, tDNewK, tRevL, rCat, rAppend, rPop, rSetL, tAndV, tOrV, tNotV, tSl, tPart, tNoPart, tM1, gTup, gCons, gNil, cxK, cxnK, List.map_cons, List.map_nil, List.length_cons, List.length_nil, List.replicate, List.cons_append, List.nil_append, List.append_nil, List.set_cons_zero, List.set_cons_succ, List.getElem?_cons_zero, List.getElem?_cons_succ, Option.some.injEq, V.ref.injEq, V.int.injEq, V.str.injEq, V.bl.injEq, V.ty.injEq, exists_eq_left', exists_eq_left, exists_and_left, List.cons.injEq, and_true, true_and, sc_ii, sc_ss, sc_bb, sc_ni, sc_in, sc_is, sc_si, sc_nn, decide_true, decide_false, reduceCtorEq, Bool.false_eq_true, if_true, if_false, ite_true, ite_false, exists_const, eq_self, false_and, and_false, or_false, false_or, exists_false, Evl.rLenS, rSum, wipe, tYes, exists_eq, exists_eq', rIxL, rIxT, rIxS, exists_and_right, gt_iff_lt, not_true_eq_false, not_false_eq_true, Bool.not_true, Bool.not_false, decide_eq_true_eq, Nat.reduceSub, Nat.reduceAdd, List.append_assoc, tChain, tDIn, tDNotIn, sDDel, tAug, ipI, rInt1_int, rInt1_bl]
    refine ⟨a, rs, rows, rfl, ha, hrs, l2, fun ld rs' H1 nld hld hrs' fr k1 => ?_⟩
    have hrsA := hrs'.mono fun _ _ z => z.rw_
    refine mkWebG rows True.intro (fun R r => ⟨_, rfl, r ld rs' H1 hld hrsA (Kp.refl _ _)⟩) l1 (by omega) hg fun o srs H1' H2 k1' hsr hW hS k2 => ?_
    try simp (maxSteps := 1000000) only [tSeq, tIfS, tTest, tOp, tUn, tCB, tCons, tNil, tVar, tC, rI0, rI, rU, rEq, rNe, tRet, tRetN, tAsg, gName, gSub, tBM, tBM0, tNext, tB, tNot, tAnd, tOr, tIf, tCall, tDrop, tBreak, tCont, L2.start, tDGet, sDPut, tTup, tLst, tDNewK, tRevL, rCat, rAppend, rPop, rSetL, tAndV, tOrV, tNotV, tSl, tPart, tNoPart, tM1, gTup, gCons, gNil, cxK, cxnK, List.map_cons, List.map_nil, List.length_cons, List.length_nil, List.replicate, List.cons_append, List.nil_append, List.append_nil, List.set_cons_zero, List.set_cons_succ, List.getElem?_cons_zero, List.getElem?_cons_succ, Option.some.injEq, V.ref.injEq, V.int.injEq, V.str.injEq, V.bl.injEq, V.ty.injEq, exists_eq_left', exists_eq_left, exists_and_left, List.cons.injEq, and_true, true_and, sc_ii, sc_ss, sc_bb, sc_ni, sc_in, sc_is, sc_si, sc_nn, decide_true, decide_false, reduceCtorEq, Bool.false_eq_true, if_true, if_false, ite_true, ite_false, exists_const, eq_self, false_and, and_false, or_false, false_or, exists_false, Evl.rLenS, rSum, wipe, tYes, exists_eq, exists_eq', rIxL, rIxT, rIxS, exists_and_right, gt_iff_lt, not_true_eq_false, not_false_eq_true, Bool.not_true, Bool.not_false, decide_eq_true_eq, Nat.reduceSub, Nat.reduceAdd, List.append_assoc, tChain, tDIn, tDNotIn, sDDel, tAug, ipI, rInt1_int, rInt1_bl]
    have kA := k1'.trans k2
    have kH2 := k1.trans kA
    have lr : ∀ r ∈ rows, r.length ≤ 1000 := fun r hr2 => by have := (hg r hr2).len; omega
    have ls : srs.length = rows.length := hsr.len
    have lrs : rs.length = rows.length := hrs.len
    have lrs' : rs'.length = rows.length := hrs'.len
    refine ⟨_, _, rfl, rows_same (kA _ _ not0 hld) (kH2 _ _ not0 ha) (hrsA.mono fun _ _ z => z.kd kA.kd) (hrs.mono fun _ _ z => z.kd kH2.kd) (by omega) lr, true, rfl, ?_⟩
    rw [if_neg (by decide)]
    refine ⟨o, a, rs, rows, srs, rfl, hW, kH2 _ _ not0 ha, hrs.mono fun _ _ z => z.kd kH2.kd, hsr, l2, hg, fun H3 k3 => ⟨true, rfl, ?_⟩⟩
    rw [if_neg (by decide)]
    have kB := kA.trans k3
    have kH3 := k1.trans kB
    have hld3 := kB _ _ not0 hld
    have row : ∀ (i : Nat), i < rows.length → ∃ r us, rs'[i]? = some (.ref r) ∧ H r = none ∧ r ≠ ld ∧ H1 r = some (.lst us) ∧ us.length ≤ 100 := fun i hi => by
      have er : rows[i]? = some rows[i] := List.getElem?_eq_getElem hi
      obtain ⟨v, ev, r, us, rfl, n, h, hm⟩ := hrs'.at er
      obtain ⟨r', e', nf⟩ := fr _ (List.mem_of_getElem? ev)
      cases e'
      exact ⟨r, us, ev, nf, n, h, by rw [hm.len]; exact (hg _ (List.getElem_mem hi)).len⟩
    obtain ⟨r0, us0, ev0, n0, nd0, hr0, lu0⟩ := row 0 (by omega)
    obtain ⟨r1, us1, ev1, n1, nd1, hr1, lu1⟩ := row (rows.length - 1) (by omega)
    have hr03 := kB _ _ not0 hr0
    have hr13 := kB _ _ not0 hr1
    refine ⟨_, sq_l hld3, _, atI_of (by decide) ev0, .inl ⟨rfl, _, sq_l hr03⟩, r0, rfl, us0, hr03, by rw [sizeLine_eq]; omega, ?_⟩
    have k4 : Kp [] H (upd H3 r0 (.lst (us0 ++ [V.non]))) := kH3.wr n0
    have s4 : Kp [ld, r0, r1] H3 (upd H3 r0 (.lst (us0 ++ [V.non]))) := (Kp.refl _ H3).put (by simp)
    have hld4 : (upd H3 r0 (.lst (us0 ++ [V.non]))) ld = some (.lst rs') := by rw [upd_ne (Ne.symm nd0)]; exact hld3
    have hr14 : ∃ xs, (upd H3 r0 (.lst (us0 ++ [V.non]))) r1 = some (.lst xs) := by
      by_cases e : r1 = r0
      · subst e; exact ⟨_, upd_same⟩
      · exact ⟨us1, by rw [upd_ne e]; exact hr13⟩
    generalize upd H3 r0 (.lst (us0 ++ [V.non])) = H4 at k4 s4 hld4 hr14 ⊢
    obtain ⟨xs1, hr14⟩ := hr14
    refine ⟨_, .inl (sq_l (k4 _ _ not0 ha)), _, sq_l hld4, .ref r1, ?_, .inl ⟨rfl, _, sq_l hr14⟩, r1, xs1, rfl, rfl, hr14, ?_⟩
    · rw [lrs, show ((rows.length : Nat) : Int) - 1 = ((rows.length - 1 : Nat) : Int) by omega]
      exact atI_nat ev1
    have k5 : Kp [] H (upd H4 r1 (.lst [])) := k4.wr n1
    have s5 : Kp [ld, r0, r1] H3 (upd H4 r1 (.lst [])) := s4.put (by simp)
    have hld5 : (upd H4 r1 (.lst [])) ld = some (.lst rs') := by rw [upd_ne (Ne.symm nd1)]; exact hld4
    generalize upd H4 r1 (.lst []) = H5 at k5 s5 hld5 ⊢
    refine ⟨.inl ⟨rfl, _, sq_l hld5⟩, Nat.zero_le _, fun p np => ?_⟩
    have kp := (Kp.new np : Kp [] H5 (upd H5 p (.lst [])))
    have hld6 := kp _ _ not0 hld5
    have k6 := k5.trans kp
    have s6 := s5.trans (kp.of0 (T := [ld, r0, r1]))
    generalize upd H5 p (.lst []) = H6 at k6 s6 hld6 ⊢
    refine ⟨rs', hld6, by rw [lrs', sizeLine_eq]; omega, ?_⟩
    have k7 : Kp [] H (upd H6 ld (.lst (rs' ++ [V.ref p]))) := k6.wr nld
    have s7 : Kp [ld, r0, r1] H3 (upd H6 ld (.lst (rs' ++ [V.ref p]))) := s6.put (by simp)
    generalize upd H6 ld (.lst (rs' ++ [V.ref p])) = H7 at k7 s7 ⊢
    have W7 : WebAt WC H7 o srs := hS [ld, r0, r1] H7 (fun x hx => by
      simp at hx
      rcases hx with rfl | rfl | rfl
      · exact ⟨_, k1' _ _ not0 hld⟩
      · exact ⟨_, k1' _ _ not0 hr0⟩
      · exact ⟨_, k1' _ _ not0 hr1⟩) ((k3.of0).trans s7)
    have ha7 := k7 _ _ not0 ha
    have hrs7 : Rw (RwAt H7) rs rows := hrs.mono fun _ _ z => z.kd k7.kd
    refine forL_src ?_
    try simp (maxSteps := 1000000) only [tSeq, tIfS, tTest, tOp, tUn, tCB, tCons, tNil, tVar, tC, rI0, rI, rU, rEq, rNe, tRet, tRetN, tAsg, gName, gSub, tBM, tBM0, tNext, tB, tNot, tAnd, tOr, tIf, tCall, tDrop, tBreak, tCont, L2.start, tDGet, sDPut, tTup, tLst, tDNewK, tRevL, rCat, rAppend, rPop, rSetL, tAndV, tOrV, tNotV, tSl, tPart, tNoPart, tM1, gTup, gCons, gNil, cxK, cxnK, List.map_cons, List.map_nil, List.length_cons, List.length_nil, List.replicate, List.cons_append, List.nil_append, List.append_nil, List.set_cons_zero, List.set_cons_succ, List.getElem?_cons_zero, List.getElem?_cons_succ, Option.some.injEq, V.ref.injEq, V.int.injEq, V.str.injEq, V.bl.injEq, V.ty.injEq, exists_eq_left', exists_eq_left, exists_and_left, List.cons.injEq, and_true, true_and, sc_ii, sc_ss, sc_bb, sc_ni, sc_in, sc_is, sc_si, sc_nn, decide_true, decide_false, reduceCtorEq, Bool.false_eq_true, if_true, if_false, ite_true, ite_false, exists_const, eq_self, false_and, and_false, or_false, false_or, exists_false, Evl.rLenS, rSum, wipe, tYes, exists_eq, exists_eq', rIxL, rIxT, rIxS, exists_and_right, gt_iff_lt, not_true_eq_false, not_false_eq_true, Bool.not_true, Bool.not_false, decide_eq_true_eq, Nat.reduceSub, Nat.reduceAdd, List.append_assoc, tChain, tDIn, tDNotIn, sDDel, tAug, ipI, rInt1_int, rInt1_bl]
    refine ⟨_, .inl (sq_l ha7), _, .inl (sq_l ha7), by rw [sizeLine_eq]; decide, fun q1 nq1 => ?_⟩
    have ka := (Kp.new nq1 : Kp [] H7 (upd H7 q1 (.lst [.int (-1), .int (rs.length : Nat), .int ((rs.length : Nat) + 1), .bl true, .bl false])))
    have hq1 : (upd H7 q1 (.lst [.int (-1), .int (rs.length : Nat), .int ((rs.length : Nat) + 1), .bl true, .bl false])) q1 = some (.lst [.int (-1), .int (rs.length : Nat), .int ((rs.length : Nat) + 1), .bl true, .bl false]) := upd_same
    generalize upd H7 q1 (.lst [.int (-1), .int (rs.length : Nat), .int ((rs.length : Nat) + 1), .bl true, .bl false]) = H8 at ka hq1 ⊢
    refine forLC (fun i σ H' => ∃ c3 : Option V, σ = [some (.ref a), some (.ref ld), some (.ref o), c3] ∧ Kp [] H8 H') (sq_l hq1) ⟨_, rfl, Kp.refl _ _⟩ (fun j σ H' _ h => by obtain ⟨_, _, k⟩ := h; exact sq_l (k _ _ not0 hq1)) (fun i y σ G9 hy h => ?_) fun σ G9 h => ?_
    · obtain ⟨c3, rfl, k9⟩ := h
      have hy2 := List.mem_of_getElem? hy
      have k79 := ka.trans k9
      try simp (maxSteps := 1000000) only [tSeq, tIfS, tTest, tOp, tUn, tCB, tCons, tNil, tVar, tC, rI0, rI, rU, rEq, rNe, tRet, tRetN, tAsg, gName, gSub, tBM, tBM0, tNext, tB, tNot, tAnd, tOr, tIf, tCall, tDrop, tBreak, tCont, L2.start, tDGet, sDPut, tTup, tLst, tDNewK, tRevL, rCat, rAppend, rPop, rSetL, tAndV, tOrV, tNotV, tSl, tPart, tNoPart, tM1, gTup, gCons, gNil, cxK, cxnK, List.map_cons, List.map_nil, List.length_cons, List.length_nil, List.replicate, List.cons_append, List.nil_append, List.append_nil, List.set_cons_zero, List.set_cons_succ, List.getElem?_cons_zero, List.getElem?_cons_succ, Option.some.injEq, V.ref.injEq, V.int.injEq, V.str.injEq, V.bl.injEq, V.ty.injEq, exists_eq_left', exists_eq_left, exists_and_left, List.cons.injEq, and_true, true_and, sc_ii, sc_ss, sc_bb, sc_ni, sc_in, sc_is, sc_si, sc_nn, decide_true, decide_false, reduceCtorEq, Bool.false_eq_true, if_true, if_false, ite_true, ite_false, exists_const, eq_self, false_and, and_false, or_false, false_or, exists_false, Evl.rLenS, rSum, wipe, tYes, exists_eq, exists_eq', rIxL, rIxT, rIxS, exists_and_right, gt_iff_lt, not_true_eq_false, not_false_eq_true, Bool.not_true, Bool.not_false, decide_eq_true_eq, Nat.reduceSub, Nat.reduceAdd, List.append_assoc, tChain, tDIn, tDNotIn, sDDel, tAug, ipI, rInt1_int, rInt1_bl]
      refine ⟨o, y, srs, rfl, W7.kp k79, ?_, fun H' kk => ⟨true, rfl, ?_⟩⟩
      · simp at hy2
        rcases hy2 with rfl | rfl | rfl | rfl | rfl
        · exact .inl ⟨_, rfl, by omega⟩
        · exact .inl ⟨_, rfl, by omega⟩
        · exact .inl ⟨_, rfl, by omega⟩
        · exact .inr ⟨_, rfl⟩
        · exact .inr ⟨_, rfl⟩
      · rw [if_neg (by decide)]
        exact k9.trans kk
    · obtain ⟨c3, rfl, k9⟩ := h
      have k79 := ka.trans k9
      dsimp only
      try simp (maxSteps := 1000000) only [tSeq, tIfS, tTest, tOp, tUn, tCB, tCons, tNil, tVar, tC, rI0, rI, rU, rEq, rNe, tRet, tRetN, tAsg, gName, gSub, tBM, tBM0, tNext, tB, tNot, tAnd, tOr, tIf, tCall, tDrop, tBreak, tCont, L2.start, tDGet, sDPut, tTup, tLst, tDNewK, tRevL, rCat, rAppend, rPop, rSetL, tAndV, tOrV, tNotV, tSl, tPart, tNoPart, tM1, gTup, gCons, gNil, cxK, cxnK, List.map_cons, List.map_nil, List.length_cons, List.length_nil, List.replicate, List.cons_append, List.nil_append, List.append_nil, List.set_cons_zero, List.set_cons_succ, List.getElem?_cons_zero, List.getElem?_cons_succ, Option.some.injEq, V.ref.injEq, V.int.injEq, V.str.injEq, V.bl.injEq, V.ty.injEq, exists_eq_left', exists_eq_left, exists_and_left, List.cons.injEq, and_true, true_and, sc_ii, sc_ss, sc_bb, sc_ni, sc_in, sc_is, sc_si, sc_nn, decide_true, decide_false, reduceCtorEq, Bool.false_eq_true, if_true, if_false, ite_true, ite_false, exists_const, eq_self, false_and, and_false, or_false, false_or, exists_false, Evl.rLenS, rSum, wipe, tYes, exists_eq, exists_eq', rIxL, rIxT, rIxS, exists_and_right, gt_iff_lt, not_true_eq_false, not_false_eq_true, Bool.not_true, Bool.not_false, decide_eq_true_eq, Nat.reduceSub, Nat.reduceAdd, List.append_assoc, tChain, tDIn, tDNotIn, sDDel, tAug, ipI, rInt1_int, rInt1_bl]
      exact ⟨o, a, rs, rows, srs, rfl, W7.kp k79, k79 _ _ not0 ha7, hrs7.mono fun _ _ z => z.kd k79.kd, hsr, l2, hg, fun H' kk => q H' ((k7.trans k79).trans kk)⟩
end
end My

set_option Elab.async false
set_option linter.all false
set_option maxRecDepth 100000
set_option maxHeartbeats 4000000
namespace My
open PySem L2 NdefX
abbrev s_law_greatest : Stmt := top 33
theorem sc_law_greatest : FnScope ["_law_rows_here", "_law_k", "_law_web"] [] (defScope s_law_greatest) := ⟨rfl, rfl, rfl, by decide +kernel, rfl, by decide +kernel, by decide +kernel⟩
def mA : Mv := ((2, ("step" : Str), .inl 9), 3999)
def mB : Mv := ((2, ("call" : Str), .inr ("zed" : Str)), 0)
def rowsG : List (List Mv) := List.replicate 3999 [] ++ [[mA, mB]]
theorem rowsG_len : rowsG.length = 4000 := by unfold rowsG; rw [List.length_append, List.length_replicate]; rfl
theorem gA : GoodDd mA.1 := ⟨by decide, by decide, .inr ⟨.inr rfl, 9, rfl, by decide, by decide⟩⟩
theorem gB : GoodDd mB.1 := ⟨by decide, by decide, .inl ⟨rfl, _, rfl, by decide +kernel⟩⟩
theorem gAB : GoodRw 4000 [mA, mB] := ⟨fun m hm => by
  rcases List.mem_cons.mp hm with rfl | hm
  · exact gA
  · rw [List.mem_singleton.mp hm]; exact gB, fun m hm => by
  rcases List.mem_cons.mp hm with rfl | hm
  · exact ⟨by decide, by decide⟩
  · rw [List.mem_singleton.mp hm]; exact ⟨by decide, by decide⟩, by
  show [mA.1, mB.1].Nodup
  rw [List.nodup_iff_pairwise_ne, List.pairwise_pair]
  intro e
  have e : mA.1 = mB.1 := e
  have : ("step" : Str) = ("call" : Str) := congrArg (fun d : Dd => d.2.1) e
  exact absurd this (by decide +kernel), (by decide : 2 ≤ 100)⟩
theorem rowsG_good : ∀ r ∈ rowsG, GoodRw rowsG.length r := fun r hr => by
  rw [rowsG_len]
  rcases List.mem_append.mp hr with h | h
  · rw [(List.mem_replicate.mp h).2]
    exact ⟨fun _ h => (nomatch h), fun _ h => (nomatch h), List.nodup_nil, by decide⟩
  · rw [List.mem_singleton.mp h]; exact gAB
theorem rowsG_set : (List.replicate 4000 ([] : List Mv)).set 3999 [mA, mB] = rowsG := by
  rw [show 4000 = 3999 + 1 from rfl, List.replicate_succ', List.set_append_right _ _ (by rw [List.length_replicate]; exact Nat.le_refl _), List.length_replicate]; rfl
theorem rowsG_last : rowsG[3999]? = some [mA, mB] := by
  unfold rowsG
  rw [List.getElem?_append_right (by rw [List.length_replicate]; exact Nat.le_refl _), List.length_replicate]; rfl
theorem rowsG_prev : rowsG[3998]? = some [] := by
  unfold rowsG
  rw [List.getElem?_append_left (by rw [List.length_replicate]; decide), List.getElem?_replicate, if_pos (by decide)]
theorem sBA : SrM [mA, mB] [mB, mA] := ⟨List.Perm.swap _ _ _, by
  show [mB, mA].Pairwise fun x y => mvLt y x = false
  rw [List.pairwise_pair]
  decide +kernel⟩
section
variable {P : Program} {w : World} {K : PySem.W.Frag} {mg : Str → Option Value} {base : Heap} {t1 : Tok} {WC NS BW TL CE : Addr}
def spGreat : Sp := fun vs H Q _ => vs = [] ∧ ∀ H', Kp [] H H' → Q (.bl true) H'
theorem ok_law_greatest {f : Addr} {fd : FuncData} (D : Df K mg "_law_greatest" s_law_greatest [] f fd) (T : BtO mg) (C : WbC K mg WC)
    {g2 : Addr} {gd2 : FuncData} (D_law_same : Df K mg "_law_same" s_law_same ["_law_told_here", "_law_due"] g2 gd2) (G_law_same : FnOk P w K mg base CX0 4 g2 gd2 ["_law_told_here", "_law_due"] (spSame 3))
    {fl : Addr} {fdl : FuncData} (LN_Web : LenC K WC fl) (b_Web_len : Binds K fdl ["self"] []) (G_Web_len : FnOk P w K mg base CX0 1 fl fdl ["self"] (spWLen WC))
    {fR : Addr} {fdR : FuncData} (ME_Web_moves : Meth K WC "moves" fR) (bM_Web_moves : Binds K fdR ["self", "at"] []) (G_Web_moves : FnOk P w K mg base (L2.CX P w) 4 fR fdR ["self", "at"] (spWMv WC NS))
    {g4 : Addr} {gd4 : FuncData} (D_law_no_standing : Df K mg "_law_no_standing" s_law_no_standing ["_law_web", "_law_at"] g4 gd4) (G_law_no_standing : FnOk P w K mg base CX0 5 g4 gd4 ["_law_web", "_law_at"] (spNoSt WC))
    {fI : Addr} {fdI : FuncData} (M_Web : Mk K WC fI) (bI_Web : Binds K fdI ["self", "rows"] []) (G_Web_init : FnOk P w K mg base (L2.CX P w) 5 fI fdI ["self", "rows"] (spWID WC TL BW)) : FnOk P w K mg base CX0 7 f fd [] spGreat := by
  refine D.F.ok sc_law_greatest (fun vs H Q E h => ?_) (fun cdv A outer s H vs Q E hr h => ?_)
  · obtain ⟨rfl, _⟩ := h
    rfl
  · obtain ⟨rfl, q⟩ := h
    refine ⟨_, (pss_cons (ps_setLc (i := 0) (own := [("_law_k", 1)]) (g := (gName 1)) (tt := tYes) rfl sc_law_greatest.nd rfl rfl (sw_true rfl rfl rfl (by decide +kernel)) (pi_range1 rfl T.b_range (pa_cons pe_int pa_nil)) (blkOk_by (N := ["_law_rows_here", "_law_k", "_law_web"]) (sc := defScope s_law_greatest) (by decide +kernel)) (fun _ _ _ _ _ => (pg_name (i := 1) sc_law_greatest.nd rfl (Or.inl rfl))) (fun _ _ _ _ _ => pts_nil) (fun _ _ _ _ _ => (pe_lst pa_nil)))
      (pss_cons (ps_asg (pe_lst (pa_cons (pe_tup (pa_cons (pe_tup (pa_cons pe_int (pa_cons pe_str (pa_cons pe_int pa_nil)))) (pa_cons pe_int pa_nil))) (pa_cons (pe_tup (pa_cons (pe_tup (pa_cons pe_int (pa_cons pe_str (pa_cons pe_str pa_nil)))) (pa_cons pe_int pa_nil))) pa_nil))) (pg_sub (pv 0) pe_int set_list))
      (pss_cons (ps_set (i := 2) sc_law_greatest.nd rfl (Or.inl rfl) (pe_make M_Web G_Web_init (hr.mono (by decide)) rfl C.k bI_Web .nil passL (pa_cons (pv 0) pa_nil)))
      (pss_cons (ps_if (PW.pt (pw_or (pt_cmpR op_ne (pe_callB (id := "len") (call_lenO LN_Web G_Web_len b_Web_len (hr.mono (by decide)) pass0) (by rfl) T.b_len PySem.boot_len (pa_cons (pv 2) pa_nil)) pe_int (nomark _)) (pw_or1 (pt_not (pt_val (pe_call G_law_same (hr.mono (by decide)) rfl D_law_same.g D_law_same.F.kp D_law_same.b .nil pass0 (pa_cons (pe_meth (pv 2) C.cl ME_Web_moves G_Web_moves (hr.mono (by decide)) bM_Web_moves .nil passL (pa_cons pe_int pa_nil)) (pa_cons (pe_lst (pa_cons (pe_tup (pa_cons (pe_tup (pa_cons pe_int (pa_cons pe_str (pa_cons pe_str pa_nil)))) (pa_cons pe_int pa_nil))) (pa_cons (pe_tup (pa_cons (pe_tup (pa_cons pe_int (pa_cons pe_str (pa_cons pe_int pa_nil)))) (pa_cons pe_int pa_nil))) pa_nil))) pa_nil)))))))) (pss_one (ps_ret pe_bl)) pss_nil)
      (pss_one (ps_ret (pe_and (pe_call G_law_same (hr.mono (by decide)) rfl D_law_same.g D_law_same.F.kp D_law_same.b .nil pass0 (pa_cons (pe_meth (pv 2) C.cl ME_Web_moves G_Web_moves (hr.mono (by decide)) bM_Web_moves .nil passL (pa_cons pe_int pa_nil)) (pa_cons (pe_lst pa_nil) pa_nil))) (pe_one (pe_call G_law_no_standing (hr.mono (by decide)) rfl D_law_no_standing.g D_law_no_standing.F.kp D_law_no_standing.b .nil pass0 (pa_cons (pv 2) (pa_cons pe_int pa_nil))))))))))), ?_⟩
    try simp (maxSteps := 1000000) only [tSeq, tIfS, tTest, tOp, tUn, tCB, tCons, tNil, tVar, tC, rI0, rI, rU, rEq, rNe, tRet, tRetN, tAsg, gName, gSub, tBM, tBM0, tNext, tB, tNot, tAnd, tOr, tIf, tCall, tDrop, tBreak, tCont, L2.start, tDGet, sDPut, tTup, tLst, tDNewK, tRevL, rCat, rAppend, rPop, rSetL, tAndV, tOrV, tNotV, tSl, tPart, tNoPart, tM1, gTup, gCons, gNil, cxK, cxnK, List.map_cons, List.map_nil, List.length_cons, List.length_nil, List.replicate, List.cons_append, List.nil_append, List.append_nil, List.set_cons_zero, List.set_cons_succ, List.getElem?_cons_zero, List.getElem?_cons_succ, Option.some.injEq, V.ref.injEq, V.int.injEq, V.str.injEq, V.bl.injEq, V.ty.injEq, exists_eq_left', exists_eq_left, exists_and_left, List.cons.injEq, and_true, true_and, sc_ii, sc_ss, sc_bb, sc_ni, sc_in, sc_is, sc_si, sc_nn, decide_true, decide_false, reduceCtorEq, Bool.false_eq_true, if_true, if_false, ite_true, ite_false, exists_const, eq_self, false_and, and_false, or_false, false_or, exists_false, Evl.rLenS, rSum, wipe, tYes, exists_eq, exists_eq', rIxL, rIxT, rIxS, exists_and_right, gt_iff_lt, not_true_eq_false, not_false_eq_true, Bool.not_true, Bool.not_false, decide_eq_true_eq, Nat.reduceSub, Nat.reduceAdd, List.append_assoc, tChain, tDIn, tDNotIn, sDDel, tAug, ipI, rInt1_int, rInt1_bl, tMeth, rLenO]
    refine lcRgN 4000 (by decide) (fun o i H' => ∃ ws, H' o = some (.lst ws) ∧ Rw (RwN o H') ws (List.replicate i ([] : List Mv)) ∧ Kp [] H H') (fun R r => r) (fun o no => ⟨[], upd_same, .nil, Kp.new no⟩) (fun o i H' no hi ⟨ws, ho, hw, k⟩ => ?_) fun o H1 no ⟨ws, ho, hw, k1⟩ => ?_
    · refine ⟨by simp [wipe], ?_⟩
      simp only [tYes, if_true]
      try simp (maxSteps := 1000000) only [tSeq, tIfS, tTest, tOp, tUn, tCB, tCons, tNil, tVar, tC, rI0, rI, rU, rEq, rNe, tRet, tRetN, tAsg, gName, gSub, tBM, tBM0, tNext, tB, tNot, tAnd, tOr, tIf, tCall, tDrop, tBreak, tCont, L2.start, tDGet, sDPut, tTup, tLst, tDNewK, tRevL, rCat, rAppend, rPop, rSetL, tAndV, tOrV, tNotV, tSl, tPart, tNoPart, tM1, gTup, gCons, gNil, cxK, cxnK, List.map_cons, List.map_nil, List.length_cons, List.length_nil, List.replicate, List.cons_append, List.nil_append, List.append_nil, List.set_cons_zero, List.set_cons_succ, List.getElem?_cons_zero, List.getElem?_cons_succ, Option.some.injEq, V.ref.injEq, V.int.injEq, V.str.injEq, V.bl.injEq, V.ty.injEq, exists_eq_left', exists_eq_left, exists_and_left, List.cons.injEq, and_true, true_and, sc_ii, sc_ss, sc_bb, sc_ni, sc_in, sc_is, sc_si, sc_nn, decide_true, decide_false, reduceCtorEq, Bool.false_eq_true, if_true, if_false, ite_true, ite_false, exists_const, eq_self, false_and, and_false, or_false, false_or, exists_false, Evl.rLenS, rSum, wipe, tYes, exists_eq, exists_eq', rIxL, rIxT, rIxS, exists_and_right, gt_iff_lt, not_true_eq_false, not_false_eq_true, Bool.not_true, Bool.not_false, decide_eq_true_eq, Nat.reduceSub, Nat.reduceAdd, List.append_assoc, tChain, tDIn, tDNotIn, sDDel, tAug, ipI, rInt1_int, rInt1_bl]
      refine ⟨Nat.zero_le _, fun p np => ?_⟩
      have kp := (Kp.new np : Kp [] H' (upd H' p (.lst [])))
      have hp : (upd H' p (.lst [])) p = some (.lst []) := upd_same
      have po : p ≠ o := fun z => by rw [z, ho] at np; cases np
      generalize upd H' p (.lst []) = G at kp hp
      have ho2 := kp _ _ not0 ho
      have kR : Kp [o] G (upd G o (.lst (ws ++ [.ref p]))) := (Kp.refl [o] G).put (by simp)
      refine ⟨ws, ho2, by rw [hw.len, List.length_replicate, sizeLine_eq]; omega, _, upd_same, ?_, (k.trans kp).wr no⟩
      show Rw _ _ (List.replicate (i + 1) ([] : List Mv))
      rw [List.replicate_succ']
      exact (hw.mono fun u g h => (h.kp0 kp).kp ho2 kR).snoc (RwN.kp ⟨p, [], rfl, po, hp, .nil⟩ ho2 kR)
    try simp (maxSteps := 1000000) only [tSeq, tIfS, tTest, tOp, tUn, tCB, tCons, tNil, tVar, tC, rI0, rI, rU, rEq, rNe, tRet, tRetN, tAsg, gName, gSub, tBM, tBM0, tNext, tB, tNot, tAnd, tOr, tIf, tCall, tDrop, tBreak, tCont, L2.start, tDGet, sDPut, tTup, tLst, tDNewK, tRevL, rCat, rAppend, rPop, rSetL, tAndV, tOrV, tNotV, tSl, tPart, tNoPart, tM1, gTup, gCons, gNil, cxK, cxnK, List.map_cons, List.map_nil, List.length_cons, List.length_nil, List.replicate, List.cons_append, List.nil_append, List.append_nil, List.set_cons_zero, List.set_cons_succ, List.getElem?_cons_zero, List.getElem?_cons_succ, Option.some.injEq, V.ref.injEq, V.int.injEq, V.str.injEq, V.bl.injEq, V.ty.injEq, exists_eq_left', exists_eq_left, exists_and_left, List.cons.injEq, and_true, true_and, sc_ii, sc_ss, sc_bb, sc_ni, sc_in, sc_is, sc_si, sc_nn, decide_true, decide_false, reduceCtorEq, Bool.false_eq_true, if_true, if_false, ite_true, ite_false, exists_const, eq_self, false_and, and_false, or_false, false_or, exists_false, Evl.rLenS, rSum, wipe, tYes, exists_eq, exists_eq', rIxL, rIxT, rIxS, exists_and_right, gt_iff_lt, not_true_eq_false, not_false_eq_true, Bool.not_true, Bool.not_false, decide_eq_true_eq, Nat.reduceSub, Nat.reduceAdd, List.append_assoc, tChain, tDIn, tDNotIn, sDDel, tAug, ipI, rInt1_int, rInt1_bl]
    refine ⟨by rw [sizeLine_eq]; decide, fun p np => ⟨by rw [sizeLine_eq]; decide, fun p1 np1 => ⟨by rw [sizeLine_eq]; decide, fun p2 np2 => ⟨by rw [sizeLine_eq]; decide, fun p3 np3 => ⟨by rw [sizeLine_eq]; decide, fun p4 np4 => ?_⟩⟩⟩⟩⟩
    have ka := (Kp.new np : Kp [] H1 (upd H1 p (.tup [.int 2, .str (Str.ofString "step"), .int 9])))
    have hp : TD (upd H1 p (.tup [.int 2, .str (Str.ofString "step"), .int 9])) p mA.1 := upd_same
    generalize upd H1 p (.tup [.int 2, .str (Str.ofString "step"), .int 9]) = G1 at ka hp np1 np2 np3 np4 ⊢
    have kb := (Kp.new np1 : Kp [] G1 (upd G1 p1 (.tup [.ref p, .int 3999])))
    have hp1 : (upd G1 p1 (.tup [.ref p, .int 3999])) p1 = some (.tup [.ref p, .int 3999]) := upd_same
    generalize upd G1 p1 (.tup [.ref p, .int 3999]) = G2 at kb hp1 np2 np3 np4 ⊢
    have kc := (Kp.new np2 : Kp [] G2 (upd G2 p2 (.tup [.int 2, .str (Str.ofString "call"), .str (Str.ofString "zed")])))
    have hp2 : TD (upd G2 p2 (.tup [.int 2, .str (Str.ofString "call"), .str (Str.ofString "zed")])) p2 mB.1 := upd_same
    generalize upd G2 p2 (.tup [.int 2, .str (Str.ofString "call"), .str (Str.ofString "zed")]) = G3 at kc hp2 np3 np4 ⊢
    have kd := (Kp.new np3 : Kp [] G3 (upd G3 p3 (.tup [.ref p2, .int 0])))
    have hp3 : (upd G3 p3 (.tup [.ref p2, .int 0])) p3 = some (.tup [.ref p2, .int 0]) := upd_same
    generalize upd G3 p3 (.tup [.ref p2, .int 0]) = G4 at kd hp3 np4 ⊢
    have ke := (Kp.new np4 : Kp [] G4 (upd G4 p4 (.lst [.ref p1, .ref p3])))
    have hp4 : (upd G4 p4 (.lst [.ref p1, .ref p3])) p4 = some (.lst [.ref p1, .ref p3]) := upd_same
    generalize upd G4 p4 (.lst [.ref p1, .ref p3]) = G5 at ke hp4 ⊢
    have k15 := (((ka.trans kb).trans kc).trans kd).trans ke
    have ho5 := k15 _ _ not0 ho
    have lw : ws.length = 4000 := by rw [hw.len, List.length_replicate]
    have p4o : p4 ≠ o := fun z => by rw [z, ((((ka.trans kb).trans kc).trans kd)) _ _ not0 ho] at np4; cases np4
    have mA5 : TM G5 (.ref p1) mA := ⟨p1, p, rfl, ((kc.trans kd).trans ke) _ _ not0 hp1, (((kb.trans kc).trans kd).trans ke).tps _ _ hp⟩
    have mB5 : TM G5 (.ref p3) mB := ⟨p3, p2, rfl, ke _ _ not0 hp3, (kd.trans ke).tps _ _ hp2⟩
    refine ⟨ws, ho5, 3999, by rw [lw]; rfl, ?_⟩
    have k6 : Kp [] H (upd G5 o (.lst (ws.set 3999 (.ref p4)))) := (k1.trans k15).wr no
    have kR : Kp [o] G5 (upd G5 o (.lst (ws.set 3999 (.ref p4)))) := (Kp.refl [o] G5).put (by simp)
    have t6 : Tp G5 (upd G5 o (.lst (ws.set 3999 (.ref p4)))) := kR.tpsL ho5
    have ho6 : (upd G5 o (.lst (ws.set 3999 (.ref p4)))) o = some (.lst (ws.set 3999 (.ref p4))) := upd_same
    have hR0 : Rw (RwN o (upd G5 o (.lst (ws.set 3999 (.ref p4))))) (ws.set 3999 (.ref p4)) rowsG := by
      rw [← rowsG_set]
      refine Rw.set (hw.mono fun u g h => (h.kp0 k15).kp ho5 kR) 3999 ?_
      exact RwN.kp ⟨p4, _, rfl, p4o, hp4, .cons mA5 (.cons mB5 .nil)⟩ ho5 kR
    generalize upd G5 o (.lst (ws.set 3999 (.ref p4))) = G6 at k6 kR t6 ho6 hR0 ⊢
    refine mkWebG rowsG True.intro (fun R r => ⟨_, rfl, r o _ G6 ho6 (hR0.mono fun _ _ z => z.rw_) (Kp.refl _ _)⟩) (by rw [rowsG_len]; decide) (by rw [rowsG_len]; decide) rowsG_good fun ow srs H1' H2 k1' hsr hW _ k2 => ?_
    have k62 := k1'.trans k2
    have kH2 := k6.trans k62
    have ls : srs.length = 4000 := hsr.len.trans rowsG_len
    obtain ⟨dx, a1, b1, c1, us1, gs1, hs1, ho1, rest1⟩ := id hW
    try simp (maxSteps := 1000000) only [tSeq, tIfS, tTest, tOp, tUn, tCB, tCons, tNil, tVar, tC, rI0, rI, rU, rEq, rNe, tRet, tRetN, tAsg, gName, gSub, tBM, tBM0, tNext, tB, tNot, tAnd, tOr, tIf, tCall, tDrop, tBreak, tCont, L2.start, tDGet, sDPut, tTup, tLst, tDNewK, tRevL, rCat, rAppend, rPop, rSetL, tAndV, tOrV, tNotV, tSl, tPart, tNoPart, tM1, gTup, gCons, gNil, cxK, cxnK, List.map_cons, List.map_nil, List.length_cons, List.length_nil, List.replicate, List.cons_append, List.nil_append, List.append_nil, List.set_cons_zero, List.set_cons_succ, List.getElem?_cons_zero, List.getElem?_cons_succ, Option.some.injEq, V.ref.injEq, V.int.injEq, V.str.injEq, V.bl.injEq, V.ty.injEq, exists_eq_left', exists_eq_left, exists_and_left, List.cons.injEq, and_true, true_and, sc_ii, sc_ss, sc_bb, sc_ni, sc_in, sc_is, sc_si, sc_nn, decide_true, decide_false, reduceCtorEq, Bool.false_eq_true, if_true, if_false, ite_true, ite_false, exists_const, eq_self, false_and, and_false, or_false, false_or, exists_false, Evl.rLenS, rSum, wipe, tYes, exists_eq, exists_eq', rIxL, rIxT, rIxS, exists_and_right, gt_iff_lt, not_true_eq_false, not_false_eq_true, Bool.not_true, Bool.not_false, decide_eq_true_eq, Nat.reduceSub, Nat.reduceAdd, List.append_assoc, tChain, tDIn, tDNotIn, sDDel, tAug, ipI, rInt1_int, rInt1_bl, tMeth, rLenO]
    refine ⟨⟨dx, _, ho1⟩, ow, srs, rfl, hW, srs.length, rfl, by rw [ls, sizeLine_eq]; decide, ?_⟩
    rw [if_neg (by rw [ls]; decide)]
    obtain ⟨sL, esL, hsL⟩ := hsr.at_ rowsG_last
    obtain rfl : sL = [mB, mA] := srt_uniq gAB hsL sBA
    obtain ⟨sP, esP, hsP⟩ := hsr.at_ rowsG_prev
    obtain rfl : sP = [] := List.Perm.eq_nil hsP.1
    have mv : ∀ (k : Nat) (ms : List Mv) (F : Hp) (Qc : VK), srs[k]? = some ms → WebAt WC F ow srs → (∀ (l : Addr) (us : List V) (F' : Hp), F l = none → F' l = some (.lst us) → Rw (TM F') us ms → Kp [] F F' → Qc (.ref l) F') → spWMv WC NS [V.ref ow, V.int (k : Nat)] F Qc E0 := fun k ms F Qc es W h => ⟨ow, _, .int (k : Nat), srs, rfl, W, .int _, fun k' ms' e es' l us F' nl hl hm kk => by
      have e : ((k : Nat) : Int) = ((k' : Nat) : Int) := V.int.inj e
      obtain rfl : k = k' := by omega
      rw [es] at es'; cases es'
      exact h l us F' nl hl hm kk, fun hb => by
      have := (List.getElem?_eq_some_iff.mp es).1
      rw [show belowD (srs.length : Nat) (.int (k : Nat)) = true from below_iff.mpr ⟨_, rfl, by omega, by omega⟩] at hb
      cases hb⟩
    refine ⟨dx, _, ho1, rfl, mv 3999 _ H2 _ esL hW fun l us F1 nl hl hm kk => ?_⟩
    refine ⟨by rw [sizeLine_eq]; decide, fun p np => ⟨by rw [sizeLine_eq]; decide, fun p1 np1 => ⟨by rw [sizeLine_eq]; decide, fun p2 np2 => ⟨by rw [sizeLine_eq]; decide, fun p3 np3 => ⟨by rw [sizeLine_eq]; decide, fun p4 np4 => ?_⟩⟩⟩⟩⟩
    have ja := (Kp.new np : Kp [] F1 (upd F1 p (.tup [.int 2, .str (Str.ofString "call"), .str (Str.ofString "zed")])))
    have vp : TD (upd F1 p (.tup [.int 2, .str (Str.ofString "call"), .str (Str.ofString "zed")])) p mB.1 := upd_same
    generalize upd F1 p (.tup [.int 2, .str (Str.ofString "call"), .str (Str.ofString "zed")]) = J1 at ja vp np1 np2 np3 np4 ⊢
    have jb := (Kp.new np1 : Kp [] J1 (upd J1 p1 (.tup [.ref p, .int 0])))
    have vp1 : (upd J1 p1 (.tup [.ref p, .int 0])) p1 = some (.tup [.ref p, .int 0]) := upd_same
    generalize upd J1 p1 (.tup [.ref p, .int 0]) = J2 at jb vp1 np2 np3 np4 ⊢
    have jc := (Kp.new np2 : Kp [] J2 (upd J2 p2 (.tup [.int 2, .str (Str.ofString "step"), .int 9])))
    have vp2 : TD (upd J2 p2 (.tup [.int 2, .str (Str.ofString "step"), .int 9])) p2 mA.1 := upd_same
    generalize upd J2 p2 (.tup [.int 2, .str (Str.ofString "step"), .int 9]) = J3 at jc vp2 np3 np4 ⊢
    have jd := (Kp.new np3 : Kp [] J3 (upd J3 p3 (.tup [.ref p2, .int 3999])))
    have vp3 : (upd J3 p3 (.tup [.ref p2, .int 3999])) p3 = some (.tup [.ref p2, .int 3999]) := upd_same
    generalize upd J3 p3 (.tup [.ref p2, .int 3999]) = J4 at jd vp3 np4 ⊢
    have je := (Kp.new np4 : Kp [] J4 (upd J4 p4 (.lst [.ref p1, .ref p3])))
    have vp4 : (upd J4 p4 (.lst [.ref p1, .ref p3])) p4 = some (.lst [.ref p1, .ref p3]) := upd_same
    generalize upd J4 p4 (.lst [.ref p1, .ref p3]) = J5 at je vp4 ⊢
    have j15 := (((ja.trans jb).trans jc).trans jd).trans je
    have nB : TM J5 (.ref p1) mB := ⟨p1, p, rfl, ((jc.trans jd).trans je) _ _ not0 vp1, (((jb.trans jc).trans jd).trans je).tps _ _ vp⟩
    have nA : TM J5 (.ref p3) mA := ⟨p3, p2, rfl, je _ _ not0 vp3, (jd.trans je).tps _ _ vp2⟩
    refine ⟨_, _, rfl, RwAt.same (ms := [mB, mA]) ⟨l, us, rfl, j15 _ _ not0 hl, rwTM hm j15.tps⟩ ⟨p4, _, rfl, vp4, .cons nB (.cons nA .nil)⟩ (by decide), true, rfl, ?_⟩
    rw [if_neg (by decide)]
    have k25 := kk.trans j15
    have W5 := hW.kp k25
    obtain ⟨dx5, _, _, _, _, _, _, ho5', _⟩ := id W5
    refine ⟨dx5, _, ho5', rfl, mv 3998 _ J5 _ esP W5 fun l2 us2 F2 nl2 hl2 hm2 kk2 => ⟨Nat.zero_le _, fun q1 nq1 => ?_⟩⟩
    have kq := (Kp.new nq1 : Kp [] F2 (upd F2 q1 (.lst [])))
    refine ⟨_, _, rfl, RwAt.same (ms := []) ⟨l2, us2, rfl, kq _ _ not0 hl2, rwTM hm2 kq.tps⟩ ⟨q1, [], rfl, upd_same, .nil⟩ (by decide), true, rfl, ?_⟩
    rw [if_pos rfl]
    have kF := kk2.trans kq
    exact ⟨ow, _, srs, rfl, W5.kp kF, .inl ⟨4000, rfl, by rw [ls]; decide⟩, fun H' k => q H' (((kH2.trans k25).trans kF).trans k)⟩
end
end My

set_option Elab.async false
set_option linter.all false
set_option maxRecDepth 100000
set_option maxHeartbeats 4000000
/-! ### displays of data: what an expression gives, read off its form -/
namespace My
open PySem L2
/-- te gives a value of the data d, and what stood stands -/
def DE (te : TE) (σ : L2.St) (H0 : Hp) (d : PyData) : Prop := ∀ H1, Kp [] H0 H1 → ∀ Q : VK, (∀ v H2, Kp [] H1 H2 → Dq H2 v d → Q v H2) → te σ H1 Q
def DA (ta : TA) (σ : L2.St) (H0 : Hp) (ds : List PyData) : Prop := ∀ H1, Kp [] H0 H1 → ∀ Q : List V → Hp → Prop, (∀ vs H2, Kp [] H1 H2 → DqAll H2 vs ds → Q vs H2) → ta σ H1 Q
section
variable {σ : L2.St} {H0 : Hp} {te tf : TE} {ta : TA} {d : PyData} {ds es : List PyData}
theorem de_int {i : Int} : DE (tC (.int i)) σ H0 (.int i) := fun H1 _ Q h => h _ _ (Kp.refl _ _) (.int i)
theorem de_str {z : Str} : DE (tC (.str z)) σ H0 (.str z) := fun H1 _ Q h => h _ _ (Kp.refl _ _) (.str z)
theorem de_bl {b : Bool} : DE (tC (.bl b)) σ H0 (.bool b) := fun H1 _ Q h => h _ _ (Kp.refl _ _) (.bl b)
theorem de_non : DE (tC .non) σ H0 .none := fun H1 _ Q h => h _ _ (Kp.refl _ _) .non
theorem de_neg {i : Int} : DE (tUn (rU fun i => V.int (-i)) (tC (.int i))) σ H0 (.int (-i)) := fun H1 _ Q h => ⟨i, rfl, h _ _ (Kp.refl _ _) (.int _)⟩
theorem de_var {i : Nat} {v : V} (e : σ[i]? = some (some v)) (hd : Dq H0 v d) : DE (tVar i) σ H0 d := fun H1 k Q h => ⟨v, e, h _ _ (Kp.refl _ _) (Dq.kp k hd)⟩
theorem da_nil : DA tNil σ H0 [] := fun H1 _ Q h => h _ _ (Kp.refl _ _) .nil
theorem da_cons (a : DE te σ H0 d) (b : DA ta σ H0 ds) : DA (tCons te ta) σ H0 (d :: ds) := fun H1 k Q h => a H1 k _ fun v H2 k2 hv => b H2 (k.trans k2) _ fun vs H3 k3 hvs => h _ _ (k2.trans k3) (.cons (Dq.kp k3 hv) hvs)
theorem de_tup (a : DA ta σ H0 ds) (l : ds.length ≤ 1000 := by decide) : DE (tTup ta) σ H0 (.tuple ds) := fun H1 k Q h => a H1 k _ fun vs H2 k2 hvs => ⟨by rw [hvs.len, sizeLine_eq]; omega, fun p np => h _ _ (k2.trans (Kp.new np)) (.tup upd_same (DqAll.kp (Kp.new np) hvs))⟩
theorem de_lst (a : DA ta σ H0 ds) (l : ds.length ≤ 1000 := by decide) : DE (tLst ta) σ H0 (.list ds) := fun H1 k Q h => a H1 k _ fun vs H2 k2 hvs => ⟨by rw [hvs.len, sizeLine_eq]; omega, fun p np => h _ _ (k2.trans (Kp.new np)) (.lst upd_same (DqAll.kp (Kp.new np) hvs))⟩
/-- list + list -/
theorem de_cat (a : DE te σ H0 (.list ds)) (b : DE tf σ H0 (.list es)) (l : ds.length ≤ 1000) (l2 : es.length ≤ 1000) : DE (tOp rCat te tf) σ H0 (.list (ds ++ es)) := fun H1 k Q h => a H1 k _ fun v H2 k2 hv => b H2 (k.trans k2) _ fun u H3 k3 hu => by
  have hv3 := Dq.kp k3 hv
  cases hv3 with
  | @lst p xs _ e1 h1 =>
    cases hu with
    | @lst q ys _ e2 h2 =>
      refine ⟨p, q, xs, ys, rfl, rfl, e1, e2, by rw [h1.len, h2.len, sizeLine_eq]; omega, fun r nr => h _ _ ((k2.trans k3).trans (Kp.new nr)) (.lst upd_same ?_)⟩
      have app : ∀ {as bs : List PyData} {us vs : List V}, DqAll H3 us as → DqAll H3 vs bs → DqAll H3 (us ++ vs) (as ++ bs) := by
        intro as
        induction as with
        | nil => intro bs us vs h h'; cases h; exact h'
        | cons a as ih => intro bs us vs h h'; cases h with
          | cons x t => exact .cons x (ih t h')
      exact DqAll.kp (Kp.new nr) (app h1 h2)
/-- t[j], t a name of a tuple -/
theorem de_ix {K : PySem.W.Frag} {i : Nat} {j : Nat} {t : Addr} {xs : List V} {x : V} (e : σ[i]? = some (some (.ref t))) (ht : H0 t = some (.tup xs)) (ej : xs[j]? = some x) (hd : Dq H0 x d) : DE (tOp (rIxT K) (tVar i) (tC (.int (j : Nat)))) σ H0 d := fun H1 k Q h =>
  ⟨.ref t, e, t, xs, (j : Nat), x, rfl, rfl, sq_t (k _ _ not0 ht), atI_nat ej, h _ _ (Kp.refl _ _) (Dq.kp k hd)⟩
/-- tuple + tuple, neither empty -/
theorem de_catA {K : PySem.W.Frag} (a : DE te σ H0 (.tuple ds)) (b : DE tf σ H0 (.tuple es)) (l : ds.length ≤ 1000) (l2 : es.length ≤ 1000) (n1 : ds ≠ []) (n2 : es ≠ []) : DE (tOp (rCatA K) te tf) σ H0 (.tuple (ds ++ es)) := fun H1 k Q h => a H1 k _ fun v H2 k2 hv => b H2 (k.trans k2) _ fun u H3 k3 hu => by
  have hv3 := Dq.kp k3 hv
  cases hv3 with
  | @tup p xs _ e1 h1 =>
    cases hu with
    | @tup q ys _ e2 h2 =>
      have m1 : xs ≠ [] := fun z => by have := h1.len; rw [z] at this; exact n1 (List.eq_nil_of_length_eq_zero this.symm)
      have m2 : ys ≠ [] := fun z => by have := h2.len; rw [z] at this; exact n2 (List.eq_nil_of_length_eq_zero this.symm)
      refine ⟨p, q, xs, ys, rfl, rfl, sq_t e1, sq_t e2, by rw [h1.len, h2.len, sizeLine_eq]; omega, fun z => absurd z m1, fun _ z => absurd z m2, fun _ _ r nr => h _ _ ((k2.trans k3).trans (Kp.new nr)) (.tup upd_same ?_)⟩
      have app : ∀ {as bs : List PyData} {us vs : List V}, DqAll H3 us as → DqAll H3 vs bs → DqAll H3 (us ++ vs) (as ++ bs) := by
        intro as
        induction as with
        | nil => intro bs us vs h h'; cases h; exact h'
        | cons a as ih => intro bs us vs h h'; cases h with
          | cons x t => exact .cons x (ih t h')
      exact DqAll.kp (Kp.new nr) (app h1 h2)
/-- list(t), t a name of a tuple -/
theorem de_list {K : PySem.W.Frag} (a : DE te σ H0 (.tuple ds)) : DE (tCB (fun xs H Q => ∃ p ys, xs = [V.ref p] ∧ (SqL K H p ys ∨ SqT K H p ys) ∧ ∀ (l : Addr), H l = none → Q (V.ref l) (upd H l (HO.lst ys))) (tCons te tNil)) σ H0 (.list ds) := fun H1 k Q h => a H1 k _ fun v H2 k2 hv => by
  cases hv with
  | @tup p xs _ e1 h1 => exact ⟨p, xs, rfl, .inr (sq_t e1), fun l nl => h _ _ (k2.trans (Kp.new nl)) (.lst upd_same (DqAll.kp (Kp.new nl) h1))⟩
end
end My

set_option Elab.async false
set_option linter.all false
set_option maxRecDepth 100000
set_option maxHeartbeats 4000000
namespace My
open PySem L2 NdefX
abbrev s_law_odd : Stmt := top 26
theorem sc_law_odd : FnScope ["_law_good", "_law_size", "_law_deed", "_law_at", "_law_odd_here"] ["_law_good", "_law_size"] (defScope s_law_odd) := ⟨rfl, rfl, rfl, by decide +kernel, rfl, by decide +kernel, by decide +kernel⟩
structure BtD (mg : Str → Option Value) : Prop where
  b_list : mg "list" = none
def odd0 (c : Int) (w : Str) (L : List PyData) (D : PyData) (g n : Int) : List PyData := [.list [D, .int g], .tuple [D], .tuple [D, .int g, .int 0], .none, D, .tuple [.list L, .int g], .tuple [.tuple [.int c, .str w], .int g]]
def odd1 (c : Int) (w : Str) (L : List PyData) (D : PyData) (g n : Int) : List PyData := [.tuple [.tuple (L ++ [.int 0]), .int g], .tuple [.tuple [.int 3, .str (Str.ofString "step"), .int 0], .int g], .tuple [.tuple [.int (-1), .str (Str.ofString "call"), .str (Str.ofString "a")], .int g], .tuple [.tuple [.bool true, .str (Str.ofString "return"), .int 1], .int g]]
def odd2 (c : Int) (w : Str) (L : List PyData) (D : PyData) (g n : Int) : List PyData := [.tuple [.tuple [.none, .str (Str.ofString "step"), .int 0], .int g], .tuple [.tuple [.int 0, .str (Str.ofString "steps"), .int 0], .int g], .tuple [.tuple [.int 0, .str (Str.ofString ""), .int 1], .int g], .tuple [.tuple [.int 1, .str (Str.ofString "call"), .str (Str.ofString "")], .int g]]
def odd3 (c : Int) (w : Str) (L : List PyData) (D : PyData) (g n : Int) : List PyData := [.tuple [.tuple [.int 2, .str (Str.ofString "call"), .str (Str.ofString "abcdefghi")], .int g], .tuple [.tuple [.int 0, .str (Str.ofString "call"), .str (Str.ofString "aBc")], .int g], .tuple [.tuple [.int 1, .str (Str.ofString "call"), .str (Str.ofString "a b")], .int g]]
def odd4 (c : Int) (w : Str) (L : List PyData) (D : PyData) (g n : Int) : List PyData := [.tuple [.tuple [.int 2, .str (Str.ofString "call"), .int 7], .int g], .tuple [.tuple [.int 1, .str (Str.ofString "call"), .str (Str.ofString "a1")], .int g], .tuple [.tuple [.int 1, .str (Str.ofString "call"), .none], .int g], .tuple [.tuple [.int 0, .str (Str.ofString "return"), .int 10], .int g]]
def odd5 (c : Int) (w : Str) (L : List PyData) (D : PyData) (g n : Int) : List PyData := [.tuple [.tuple [.int 1, .str (Str.ofString "return"), .int (-1)], .int g], .tuple [.tuple [.int 2, .str (Str.ofString "return"), .bool true], .int g], .tuple [.tuple [.int 0, .str (Str.ofString "return"), .str (Str.ofString "a")], .int g], .tuple [.tuple [.int 1, .str (Str.ofString "step"), .int 10], .int g]]
def odd6 (c : Int) (w : Str) (L : List PyData) (D : PyData) (g n : Int) : List PyData := [.tuple [.tuple [.int 2, .str (Str.ofString "step"), .int (-1)], .int g], .tuple [.tuple [.int 0, .str (Str.ofString "step"), .bool false], .int g], .tuple [.tuple [.int 1, .str (Str.ofString "step"), .str (Str.ofString "0")], .int g], .tuple [D, .int n], .tuple [D, .int (-1)]]
def odd7 (c : Int) (w : Str) (L : List PyData) (D : PyData) (g n : Int) : List PyData := [.tuple [D, .bool true], .tuple [D, .none], .tuple [D, .str (Str.ofString "0")]]
def odd8 (c : Int) (w : Str) (L : List PyData) (D : PyData) (g n : Int) : List PyData := [.tuple [D, .int (n + 4000)]]
theorem de_list2 {K : PySem.W.Frag} {σ : L2.St} {H0 : Hp} {te : TE} {ds : List PyData} (a : DE te σ H0 (.tuple ds)) : DE (tCB (fun xs H Q => ∃ p, xs = [V.ref p] ∧ ∃ x, (SqL K H p x ∨ SqT K H p x) ∧ ∀ (l : Addr), H l = none → Q (V.ref l) (upd H l (HO.lst x))) (tCons te tNil)) σ H0 (.list ds) := fun H1 k Q h => a H1 k _ fun v H2 k2 hv => by
  cases hv with
  | @tup p xs _ e1 h1 => exact ⟨p, rfl, xs, .inr (sq_t e1), fun l nl => h _ _ (k2.trans (Kp.new nl)) (.lst upd_same (DqAll.kp (Kp.new nl) h1))⟩
def oddAll (d : Dd) (g n : Int) : List PyData :=
  ((((((((odd0 d.1 d.2.1 [.int d.1, .str d.2.1, kD d.2.2] (ddD d) g n) ++ odd1 d.1 d.2.1 [.int d.1, .str d.2.1, kD d.2.2] (ddD d) g n) ++ odd2 d.1 d.2.1 [.int d.1, .str d.2.1, kD d.2.2] (ddD d) g n) ++ odd3 d.1 d.2.1 [.int d.1, .str d.2.1, kD d.2.2] (ddD d) g n) ++ odd4 d.1 d.2.1 [.int d.1, .str d.2.1, kD d.2.2] (ddD d) g n) ++ odd5 d.1 d.2.1 [.int d.1, .str d.2.1, kD d.2.2] (ddD d) g n) ++ odd6 d.1 d.2.1 [.int d.1, .str d.2.1, kD d.2.2] (ddD d) g n) ++ odd7 d.1 d.2.1 [.int d.1, .str d.2.1, kD d.2.2] (ddD d) g n) ++ odd8 d.1 d.2.1 [.int d.1, .str d.2.1, kD d.2.2] (ddD d) g n
theorem de_add {σ : L2.St} {H0 : Hp} {i : Nat} {x y : Int} (e : σ[i]? = some (some (.int x))) : DE (tOp (rI0 fun i j => V.int (i + j)) (tVar i) (tC (.int y))) σ H0 (.int (x + y)) := fun H1 _ Q h => ⟨_, e, x, y, rfl, rfl, h _ _ (Kp.refl _ _) (.int _)⟩
section
variable {P : Program} {w : World} {K : PySem.W.Frag} {mg : Str → Option Value} {base : Heap} {t1 : Tok}
def spOdd : Sp := fun vs H Q _ => ∃ (a t : Addr) (n : Nat) (d : Dd) (g : Int), vs = [.ref a, .int (n : Nat)] ∧ H a = some (.tup [.ref t, .int g]) ∧ TD H t d ∧ ∀ v H', Kp [] H H' → Dq H' v (.list (oddAll d g (n : Nat))) → Q v H'
theorem ok_law_odd {f : Addr} {fd : FuncData} (D : Df K mg "_law_odd" s_law_odd ["_law_good", "_law_size"] f fd) (T : BtD mg) : FnOk P w K mg base CX0 1 f fd ["_law_good", "_law_size"] spOdd := by
  refine D.F.ok sc_law_odd (fun vs H Q E h => ?_) (fun cdv A outer s H vs Q E hr h => ?_)
  · obtain ⟨_, _, _, _, _, rfl, _⟩ := h
    rfl
  · obtain ⟨a, t, n, ⟨c, wd, k⟩, g, rfl, ha, ht, q⟩ := h
    have hD : Dq H (.ref t) (ddD (c, wd, k)) := TD.dq ht
    have ht' : H t = some (.tup [.int c, .str wd, kV k]) := ht
    refine ⟨_, (pss_cons (ps_set (i := 2) sc_law_odd.nd rfl (Or.inl rfl) (pe_ix (r := rIxT K) ix_tup (pv 0) pe_int (fun _ _ => rfl)))
      (pss_cons (ps_set (i := 3) sc_law_odd.nd rfl (Or.inl rfl) (pe_ix (r := rIxT K) ix_tup (pv 0) pe_int (fun _ _ => rfl)))
      (pss_cons (ps_set (i := 4) sc_law_odd.nd rfl (Or.inl rfl) (pe_lst (pa_cons (pe_lst (pa_cons (pv 2) (pa_cons (pv 3) pa_nil))) (pa_cons (pe_tup (pa_cons (pv 2) pa_nil)) (pa_cons (pe_tup (pa_cons (pv 2) (pa_cons (pv 3) (pa_cons pe_int pa_nil)))) (pa_cons pe_non (pa_cons (pv 2) (pa_cons (pe_tup (pa_cons (pe_callTy call_list_of (by rfl) T.b_list (by decide +kernel) (pa_cons (pv 2) pa_nil)) (pa_cons (pv 3) pa_nil))) (pa_cons (pe_tup (pa_cons (pe_tup (pa_cons (pe_ix (r := rIxT K) ix_tup (pv 2) pe_int (fun _ _ => rfl)) (pa_cons (pe_ix (r := rIxT K) ix_tup (pv 2) pe_int (fun _ _ => rfl)) pa_nil))) (pa_cons (pv 3) pa_nil))) pa_nil)))))))))
      (pss_cons (ps_set (i := 4) sc_law_odd.nd rfl (Or.inl rfl) (pe_op op_cat (pv 4) (pe_lst (pa_cons (pe_tup (pa_cons (pe_op op_catA (pv 2) (pe_tup (pa_cons pe_int pa_nil))) (pa_cons (pv 3) pa_nil))) (pa_cons (pe_tup (pa_cons (pe_tup (pa_cons pe_int (pa_cons pe_str (pa_cons pe_int pa_nil)))) (pa_cons (pv 3) pa_nil))) (pa_cons (pe_tup (pa_cons (pe_tup (pa_cons (pe_un un_neg pe_int) (pa_cons pe_str (pa_cons pe_str pa_nil)))) (pa_cons (pv 3) pa_nil))) (pa_cons (pe_tup (pa_cons (pe_tup (pa_cons pe_bl (pa_cons pe_str (pa_cons pe_int pa_nil)))) (pa_cons (pv 3) pa_nil))) pa_nil)))))))
      (pss_cons (ps_set (i := 4) sc_law_odd.nd rfl (Or.inl rfl) (pe_op op_cat (pv 4) (pe_lst (pa_cons (pe_tup (pa_cons (pe_tup (pa_cons pe_non (pa_cons pe_str (pa_cons pe_int pa_nil)))) (pa_cons (pv 3) pa_nil))) (pa_cons (pe_tup (pa_cons (pe_tup (pa_cons pe_int (pa_cons pe_str (pa_cons pe_int pa_nil)))) (pa_cons (pv 3) pa_nil))) (pa_cons (pe_tup (pa_cons (pe_tup (pa_cons pe_int (pa_cons pe_str (pa_cons pe_int pa_nil)))) (pa_cons (pv 3) pa_nil))) (pa_cons (pe_tup (pa_cons (pe_tup (pa_cons pe_int (pa_cons pe_str (pa_cons pe_str pa_nil)))) (pa_cons (pv 3) pa_nil))) pa_nil)))))))
      (pss_cons (ps_set (i := 4) sc_law_odd.nd rfl (Or.inl rfl) (pe_op op_cat (pv 4) (pe_lst (pa_cons (pe_tup (pa_cons (pe_tup (pa_cons pe_int (pa_cons pe_str (pa_cons pe_str pa_nil)))) (pa_cons (pv 3) pa_nil))) (pa_cons (pe_tup (pa_cons (pe_tup (pa_cons pe_int (pa_cons pe_str (pa_cons pe_str pa_nil)))) (pa_cons (pv 3) pa_nil))) (pa_cons (pe_tup (pa_cons (pe_tup (pa_cons pe_int (pa_cons pe_str (pa_cons pe_str pa_nil)))) (pa_cons (pv 3) pa_nil))) pa_nil))))))
      (pss_cons (ps_set (i := 4) sc_law_odd.nd rfl (Or.inl rfl) (pe_op op_cat (pv 4) (pe_lst (pa_cons (pe_tup (pa_cons (pe_tup (pa_cons pe_int (pa_cons pe_str (pa_cons pe_int pa_nil)))) (pa_cons (pv 3) pa_nil))) (pa_cons (pe_tup (pa_cons (pe_tup (pa_cons pe_int (pa_cons pe_str (pa_cons pe_str pa_nil)))) (pa_cons (pv 3) pa_nil))) (pa_cons (pe_tup (pa_cons (pe_tup (pa_cons pe_int (pa_cons pe_str (pa_cons pe_non pa_nil)))) (pa_cons (pv 3) pa_nil))) (pa_cons (pe_tup (pa_cons (pe_tup (pa_cons pe_int (pa_cons pe_str (pa_cons pe_int pa_nil)))) (pa_cons (pv 3) pa_nil))) pa_nil)))))))
      (pss_cons (ps_set (i := 4) sc_law_odd.nd rfl (Or.inl rfl) (pe_op op_cat (pv 4) (pe_lst (pa_cons (pe_tup (pa_cons (pe_tup (pa_cons pe_int (pa_cons pe_str (pa_cons (pe_un un_neg pe_int) pa_nil)))) (pa_cons (pv 3) pa_nil))) (pa_cons (pe_tup (pa_cons (pe_tup (pa_cons pe_int (pa_cons pe_str (pa_cons pe_bl pa_nil)))) (pa_cons (pv 3) pa_nil))) (pa_cons (pe_tup (pa_cons (pe_tup (pa_cons pe_int (pa_cons pe_str (pa_cons pe_str pa_nil)))) (pa_cons (pv 3) pa_nil))) (pa_cons (pe_tup (pa_cons (pe_tup (pa_cons pe_int (pa_cons pe_str (pa_cons pe_int pa_nil)))) (pa_cons (pv 3) pa_nil))) pa_nil)))))))
      (pss_cons (ps_set (i := 4) sc_law_odd.nd rfl (Or.inl rfl) (pe_op op_cat (pv 4) (pe_lst (pa_cons (pe_tup (pa_cons (pe_tup (pa_cons pe_int (pa_cons pe_str (pa_cons (pe_un un_neg pe_int) pa_nil)))) (pa_cons (pv 3) pa_nil))) (pa_cons (pe_tup (pa_cons (pe_tup (pa_cons pe_int (pa_cons pe_str (pa_cons pe_bl pa_nil)))) (pa_cons (pv 3) pa_nil))) (pa_cons (pe_tup (pa_cons (pe_tup (pa_cons pe_int (pa_cons pe_str (pa_cons pe_str pa_nil)))) (pa_cons (pv 3) pa_nil))) (pa_cons (pe_tup (pa_cons (pv 2) (pa_cons (pv 1) pa_nil))) (pa_cons (pe_tup (pa_cons (pv 2) (pa_cons (pe_un un_neg pe_int) pa_nil))) pa_nil))))))))
      (pss_cons (ps_set (i := 4) sc_law_odd.nd rfl (Or.inl rfl) (pe_op op_cat (pv 4) (pe_lst (pa_cons (pe_tup (pa_cons (pv 2) (pa_cons pe_bl pa_nil))) (pa_cons (pe_tup (pa_cons (pv 2) (pa_cons pe_non pa_nil))) (pa_cons (pe_tup (pa_cons (pv 2) (pa_cons pe_str pa_nil))) pa_nil))))))
      (pss_one (ps_ret (pe_op op_cat (pv 4) (pe_lst (pa_cons (pe_tup (pa_cons (pv 2) (pa_cons (pe_op op_add (pv 1) pe_int) pa_nil))) pa_nil))))))))))))))), ?_⟩
    try simp (maxSteps := 1000000) only [tSeq, tIfS, tTest, rI0, rI, rU, rEq, rNe, tRet, tRetN, tAsg, gName, gSub, tBM, tBM0, tNext, tB, tNot, tAnd, tOr, tIf, tCall, tDrop, tBreak, tCont, L2.start, tDGet, sDPut, tDNewK, tRevL, rCat, rAppend, rPop, rSetL, tAndV, tOrV, tNotV, tSl, tPart, tNoPart, tM1, gTup, gCons, gNil, cxK, cxnK, List.map_cons, List.map_nil, List.length_cons, List.length_nil, List.replicate, List.cons_append, List.nil_append, List.append_nil, List.set_cons_zero, List.set_cons_succ, List.getElem?_cons_zero, List.getElem?_cons_succ, Option.some.injEq, V.ref.injEq, V.int.injEq, V.str.injEq, V.bl.injEq, V.ty.injEq, exists_eq_left', exists_eq_left, exists_and_left, List.cons.injEq, and_true, true_and, sc_ii, sc_ss, sc_bb, sc_ni, sc_in, sc_is, sc_si, sc_nn, decide_true, decide_false, reduceCtorEq, Bool.false_eq_true, if_true, if_false, ite_true, ite_false, exists_const, eq_self, false_and, and_false, or_false, false_or, exists_false, Evl.rLenS, rSum, wipe, tYes, exists_eq, exists_eq', rIxL, rIxT, rIxS, exists_and_right, gt_iff_lt, not_true_eq_false, not_false_eq_true, Bool.not_true, Bool.not_false, decide_eq_true_eq, Nat.reduceSub, Nat.reduceAdd, List.append_assoc, tChain, tDIn, tDNotIn, sDDel, tAug, ipI, rInt1_int, rInt1_bl]
    refine ⟨_, rfl, a, _, 0, _, rfl, rfl, sq_t ha, rfl, ?_⟩
    try simp (maxSteps := 1000000) only [tSeq, tIfS, tTest, rI0, rI, rU, rEq, rNe, tRet, tRetN, tAsg, gName, gSub, tBM, tBM0, tNext, tB, tNot, tAnd, tOr, tIf, tCall, tDrop, tBreak, tCont, L2.start, tDGet, sDPut, tDNewK, tRevL, rCat, rAppend, rPop, rSetL, tAndV, tOrV, tNotV, tSl, tPart, tNoPart, tM1, gTup, gCons, gNil, cxK, cxnK, List.map_cons, List.map_nil, List.length_cons, List.length_nil, List.replicate, List.cons_append, List.nil_append, List.append_nil, List.set_cons_zero, List.set_cons_succ, List.getElem?_cons_zero, List.getElem?_cons_succ, Option.some.injEq, V.ref.injEq, V.int.injEq, V.str.injEq, V.bl.injEq, V.ty.injEq, exists_eq_left', exists_eq_left, exists_and_left, List.cons.injEq, and_true, true_and, sc_ii, sc_ss, sc_bb, sc_ni, sc_in, sc_is, sc_si, sc_nn, decide_true, decide_false, reduceCtorEq, Bool.false_eq_true, if_true, if_false, ite_true, ite_false, exists_const, eq_self, false_and, and_false, or_false, false_or, exists_false, Evl.rLenS, rSum, wipe, tYes, exists_eq, exists_eq', rIxL, rIxT, rIxS, exists_and_right, gt_iff_lt, not_true_eq_false, not_false_eq_true, Bool.not_true, Bool.not_false, decide_eq_true_eq, Nat.reduceSub, Nat.reduceAdd, List.append_assoc, tChain, tDIn, tDNotIn, sDDel, tAug, ipI, rInt1_int, rInt1_bl]
    refine ⟨_, rfl, a, _, 1, .int g, rfl, rfl, sq_t ha, rfl, ?_⟩
    try simp (maxSteps := 1000000) only [tSeq, tIfS, tTest, rI0, rI, rU, rEq, rNe, tRet, tRetN, tAsg, gName, gSub, tBM, tBM0, tNext, tB, tNot, tAnd, tOr, tIf, tCall, tDrop, tBreak, tCont, L2.start, tDGet, sDPut, tDNewK, tRevL, rCat, rAppend, rPop, rSetL, tAndV, tOrV, tNotV, tSl, tPart, tNoPart, tM1, gTup, gCons, gNil, cxK, cxnK, List.map_cons, List.map_nil, List.length_cons, List.length_nil, List.replicate, List.cons_append, List.nil_append, List.append_nil, List.set_cons_zero, List.set_cons_succ, List.getElem?_cons_zero, List.getElem?_cons_succ, Option.some.injEq, V.ref.injEq, V.int.injEq, V.str.injEq, V.bl.injEq, V.ty.injEq, exists_eq_left', exists_eq_left, exists_and_left, List.cons.injEq, and_true, true_and, sc_ii, sc_ss, sc_bb, sc_ni, sc_in, sc_is, sc_si, sc_nn, decide_true, decide_false, reduceCtorEq, Bool.false_eq_true, if_true, if_false, ite_true, ite_false, exists_const, eq_self, false_and, and_false, or_false, false_or, exists_false, Evl.rLenS, rSum, wipe, tYes, exists_eq, exists_eq', rIxL, rIxT, rIxS, exists_and_right, gt_iff_lt, not_true_eq_false, not_false_eq_true, Bool.not_true, Bool.not_false, decide_eq_true_eq, Nat.reduceSub, Nat.reduceAdd, List.append_assoc, tChain, tDIn, tDNotIn, sDDel, tAug, ipI, rInt1_int, rInt1_bl]
    refine de_lst (ds := odd0 c wd [.int c, .str wd, kD k] (ddD (c, wd, k)) g (n : Nat)) ?_ (by simp [odd0]) H (Kp.refl _ _) _ fun v0 G0 k0 h0 => ?_
    · unfold odd0
      repeat' first | exact da_nil | refine da_cons ?_ ?_ | refine de_tup ?_ (by simp) | refine de_lst ?_ (by simp) | exact de_int | exact de_str | exact de_bl | exact de_non | exact de_neg | exact de_var rfl hD | exact de_var rfl (.int _) | exact de_list2 (de_var rfl hD) | exact de_ix (j := 0) rfl ht' rfl (.int _) | exact de_ix (j := 1) rfl ht' rfl (.str _) | exact de_add rfl | refine de_catA (de_var rfl hD) ?_ (by simp) (by simp) (by simp) (by simp)
    have hD := Dq.kp k0 hD
    have ht' := k0 _ _ not0 ht'
    try simp (maxSteps := 1000000) only [tSeq, tIfS, tTest, rI0, rI, rU, rEq, rNe, tRet, tRetN, tAsg, gName, gSub, tBM, tBM0, tNext, tB, tNot, tAnd, tOr, tIf, tCall, tDrop, tBreak, tCont, L2.start, tDGet, sDPut, tDNewK, tRevL, rCat, rAppend, rPop, rSetL, tAndV, tOrV, tNotV, tSl, tPart, tNoPart, tM1, gTup, gCons, gNil, cxK, cxnK, List.map_cons, List.map_nil, List.length_cons, List.length_nil, List.replicate, List.cons_append, List.nil_append, List.append_nil, List.set_cons_zero, List.set_cons_succ, List.getElem?_cons_zero, List.getElem?_cons_succ, Option.some.injEq, V.ref.injEq, V.int.injEq, V.str.injEq, V.bl.injEq, V.ty.injEq, exists_eq_left', exists_eq_left, exists_and_left, List.cons.injEq, and_true, true_and, sc_ii, sc_ss, sc_bb, sc_ni, sc_in, sc_is, sc_si, sc_nn, decide_true, decide_false, reduceCtorEq, Bool.false_eq_true, if_true, if_false, ite_true, ite_false, exists_const, eq_self, false_and, and_false, or_false, false_or, exists_false, Evl.rLenS, rSum, wipe, tYes, exists_eq, exists_eq', rIxL, rIxT, rIxS, exists_and_right, gt_iff_lt, not_true_eq_false, not_false_eq_true, Bool.not_true, Bool.not_false, decide_eq_true_eq, Nat.reduceSub, Nat.reduceAdd, List.append_assoc, tChain, tDIn, tDNotIn, sDDel, tAug, ipI, rInt1_int, rInt1_bl]
    refine de_cat (ds := odd0 c wd [.int c, .str wd, kD k] (ddD (c, wd, k)) g (n : Nat)) (es := odd1 c wd [.int c, .str wd, kD k] (ddD (c, wd, k)) g (n : Nat)) (de_var rfl h0) (de_lst ?_ (by simp [odd1])) (by simp [odd0]) (by simp [odd1]) G0 (Kp.refl _ _) _ fun v1 G1 k1 h1 => ?_
    · unfold odd1
      repeat' first | exact da_nil | refine da_cons ?_ ?_ | refine de_tup ?_ (by simp) | refine de_lst ?_ (by simp) | exact de_int | exact de_str | exact de_bl | exact de_non | exact de_neg | exact de_var rfl hD | exact de_var rfl (.int _) | exact de_list2 (de_var rfl hD) | exact de_ix (j := 0) rfl ht' rfl (.int _) | exact de_ix (j := 1) rfl ht' rfl (.str _) | exact de_add rfl | refine de_catA (de_var rfl hD) ?_ (by simp) (by simp) (by simp) (by simp)
    have hD := Dq.kp k1 hD
    have ht' := k1 _ _ not0 ht'
    try simp (maxSteps := 1000000) only [tSeq, tIfS, tTest, rI0, rI, rU, rEq, rNe, tRet, tRetN, tAsg, gName, gSub, tBM, tBM0, tNext, tB, tNot, tAnd, tOr, tIf, tCall, tDrop, tBreak, tCont, L2.start, tDGet, sDPut, tDNewK, tRevL, rCat, rAppend, rPop, rSetL, tAndV, tOrV, tNotV, tSl, tPart, tNoPart, tM1, gTup, gCons, gNil, cxK, cxnK, List.map_cons, List.map_nil, List.length_cons, List.length_nil, List.replicate, List.cons_append, List.nil_append, List.append_nil, List.set_cons_zero, List.set_cons_succ, List.getElem?_cons_zero, List.getElem?_cons_succ, Option.some.injEq, V.ref.injEq, V.int.injEq, V.str.injEq, V.bl.injEq, V.ty.injEq, exists_eq_left', exists_eq_left, exists_and_left, List.cons.injEq, and_true, true_and, sc_ii, sc_ss, sc_bb, sc_ni, sc_in, sc_is, sc_si, sc_nn, decide_true, decide_false, reduceCtorEq, Bool.false_eq_true, if_true, if_false, ite_true, ite_false, exists_const, eq_self, false_and, and_false, or_false, false_or, exists_false, Evl.rLenS, rSum, wipe, tYes, exists_eq, exists_eq', rIxL, rIxT, rIxS, exists_and_right, gt_iff_lt, not_true_eq_false, not_false_eq_true, Bool.not_true, Bool.not_false, decide_eq_true_eq, Nat.reduceSub, Nat.reduceAdd, List.append_assoc, tChain, tDIn, tDNotIn, sDDel, tAug, ipI, rInt1_int, rInt1_bl]
    refine de_cat (ds := (odd0 c wd [.int c, .str wd, kD k] (ddD (c, wd, k)) g (n : Nat)) ++ odd1 c wd [.int c, .str wd, kD k] (ddD (c, wd, k)) g (n : Nat)) (es := odd2 c wd [.int c, .str wd, kD k] (ddD (c, wd, k)) g (n : Nat)) (de_var rfl h1) (de_lst ?_ (by simp [odd2])) (by simp [odd0, odd1]) (by simp [odd2]) G1 (Kp.refl _ _) _ fun v2 G2 k2 h2 => ?_
    · unfold odd2
      repeat' first | exact da_nil | refine da_cons ?_ ?_ | refine de_tup ?_ (by simp) | refine de_lst ?_ (by simp) | exact de_int | exact de_str | exact de_bl | exact de_non | exact de_neg | exact de_var rfl hD | exact de_var rfl (.int _) | exact de_list2 (de_var rfl hD) | exact de_ix (j := 0) rfl ht' rfl (.int _) | exact de_ix (j := 1) rfl ht' rfl (.str _) | exact de_add rfl | refine de_catA (de_var rfl hD) ?_ (by simp) (by simp) (by simp) (by simp)
    have hD := Dq.kp k2 hD
    have ht' := k2 _ _ not0 ht'
    try simp (maxSteps := 1000000) only [tSeq, tIfS, tTest, rI0, rI, rU, rEq, rNe, tRet, tRetN, tAsg, gName, gSub, tBM, tBM0, tNext, tB, tNot, tAnd, tOr, tIf, tCall, tDrop, tBreak, tCont, L2.start, tDGet, sDPut, tDNewK, tRevL, rCat, rAppend, rPop, rSetL, tAndV, tOrV, tNotV, tSl, tPart, tNoPart, tM1, gTup, gCons, gNil, cxK, cxnK, List.map_cons, List.map_nil, List.length_cons, List.length_nil, List.replicate, List.cons_append, List.nil_append, List.append_nil, List.set_cons_zero, List.set_cons_succ, List.getElem?_cons_zero, List.getElem?_cons_succ, Option.some.injEq, V.ref.injEq, V.int.injEq, V.str.injEq, V.bl.injEq, V.ty.injEq, exists_eq_left', exists_eq_left, exists_and_left, List.cons.injEq, and_true, true_and, sc_ii, sc_ss, sc_bb, sc_ni, sc_in, sc_is, sc_si, sc_nn, decide_true, decide_false, reduceCtorEq, Bool.false_eq_true, if_true, if_false, ite_true, ite_false, exists_const, eq_self, false_and, and_false, or_false, false_or, exists_false, Evl.rLenS, rSum, wipe, tYes, exists_eq, exists_eq', rIxL, rIxT, rIxS, exists_and_right, gt_iff_lt, not_true_eq_false, not_false_eq_true, Bool.not_true, Bool.not_false, decide_eq_true_eq, Nat.reduceSub, Nat.reduceAdd, List.append_assoc, tChain, tDIn, tDNotIn, sDDel, tAug, ipI, rInt1_int, rInt1_bl]
    refine de_cat (ds := ((odd0 c wd [.int c, .str wd, kD k] (ddD (c, wd, k)) g (n : Nat)) ++ odd1 c wd [.int c, .str wd, kD k] (ddD (c, wd, k)) g (n : Nat)) ++ odd2 c wd [.int c, .str wd, kD k] (ddD (c, wd, k)) g (n : Nat)) (es := odd3 c wd [.int c, .str wd, kD k] (ddD (c, wd, k)) g (n : Nat)) (de_var rfl h2) (de_lst ?_ (by simp [odd3])) (by simp [odd0, odd1, odd2]) (by simp [odd3]) G2 (Kp.refl _ _) _ fun v3 G3 k3 h3 => ?_
    · unfold odd3
      repeat' first | exact da_nil | refine da_cons ?_ ?_ | refine de_tup ?_ (by simp) | refine de_lst ?_ (by simp) | exact de_int | exact de_str | exact de_bl | exact de_non | exact de_neg | exact de_var rfl hD | exact de_var rfl (.int _) | exact de_list2 (de_var rfl hD) | exact de_ix (j := 0) rfl ht' rfl (.int _) | exact de_ix (j := 1) rfl ht' rfl (.str _) | exact de_add rfl | refine de_catA (de_var rfl hD) ?_ (by simp) (by simp) (by simp) (by simp)
    have hD := Dq.kp k3 hD
    have ht' := k3 _ _ not0 ht'
    try simp (maxSteps := 1000000) only [tSeq, tIfS, tTest, rI0, rI, rU, rEq, rNe, tRet, tRetN, tAsg, gName, gSub, tBM, tBM0, tNext, tB, tNot, tAnd, tOr, tIf, tCall, tDrop, tBreak, tCont, L2.start, tDGet, sDPut, tDNewK, tRevL, rCat, rAppend, rPop, rSetL, tAndV, tOrV, tNotV, tSl, tPart, tNoPart, tM1, gTup, gCons, gNil, cxK, cxnK, List.map_cons, List.map_nil, List.length_cons, List.length_nil, List.replicate, List.cons_append, List.nil_append, List.append_nil, List.set_cons_zero, List.set_cons_succ, List.getElem?_cons_zero, List.getElem?_cons_succ, Option.some.injEq, V.ref.injEq, V.int.injEq, V.str.injEq, V.bl.injEq, V.ty.injEq, exists_eq_left', exists_eq_left, exists_and_left, List.cons.injEq, and_true, true_and, sc_ii, sc_ss, sc_bb, sc_ni, sc_in, sc_is, sc_si, sc_nn, decide_true, decide_false, reduceCtorEq, Bool.false_eq_true, if_true, if_false, ite_true, ite_false, exists_const, eq_self, false_and, and_false, or_false, false_or, exists_false, Evl.rLenS, rSum, wipe, tYes, exists_eq, exists_eq', rIxL, rIxT, rIxS, exists_and_right, gt_iff_lt, not_true_eq_false, not_false_eq_true, Bool.not_true, Bool.not_false, decide_eq_true_eq, Nat.reduceSub, Nat.reduceAdd, List.append_assoc, tChain, tDIn, tDNotIn, sDDel, tAug, ipI, rInt1_int, rInt1_bl]
    refine de_cat (ds := (((odd0 c wd [.int c, .str wd, kD k] (ddD (c, wd, k)) g (n : Nat)) ++ odd1 c wd [.int c, .str wd, kD k] (ddD (c, wd, k)) g (n : Nat)) ++ odd2 c wd [.int c, .str wd, kD k] (ddD (c, wd, k)) g (n : Nat)) ++ odd3 c wd [.int c, .str wd, kD k] (ddD (c, wd, k)) g (n : Nat)) (es := odd4 c wd [.int c, .str wd, kD k] (ddD (c, wd, k)) g (n : Nat)) (de_var rfl h3) (de_lst ?_ (by simp [odd4])) (by simp [odd0, odd1, odd2, odd3]) (by simp [odd4]) G3 (Kp.refl _ _) _ fun v4 G4 k4 h4 => ?_
    · unfold odd4
      repeat' first | exact da_nil | refine da_cons ?_ ?_ | refine de_tup ?_ (by simp) | refine de_lst ?_ (by simp) | exact de_int | exact de_str | exact de_bl | exact de_non | exact de_neg | exact de_var rfl hD | exact de_var rfl (.int _) | exact de_list2 (de_var rfl hD) | exact de_ix (j := 0) rfl ht' rfl (.int _) | exact de_ix (j := 1) rfl ht' rfl (.str _) | exact de_add rfl | refine de_catA (de_var rfl hD) ?_ (by simp) (by simp) (by simp) (by simp)
    have hD := Dq.kp k4 hD
    have ht' := k4 _ _ not0 ht'
    try simp (maxSteps := 1000000) only [tSeq, tIfS, tTest, rI0, rI, rU, rEq, rNe, tRet, tRetN, tAsg, gName, gSub, tBM, tBM0, tNext, tB, tNot, tAnd, tOr, tIf, tCall, tDrop, tBreak, tCont, L2.start, tDGet, sDPut, tDNewK, tRevL, rCat, rAppend, rPop, rSetL, tAndV, tOrV, tNotV, tSl, tPart, tNoPart, tM1, gTup, gCons, gNil, cxK, cxnK, List.map_cons, List.map_nil, List.length_cons, List.length_nil, List.replicate, List.cons_append, List.nil_append, List.append_nil, List.set_cons_zero, List.set_cons_succ, List.getElem?_cons_zero, List.getElem?_cons_succ, Option.some.injEq, V.ref.injEq, V.int.injEq, V.str.injEq, V.bl.injEq, V.ty.injEq, exists_eq_left', exists_eq_left, exists_and_left, List.cons.injEq, and_true, true_and, sc_ii, sc_ss, sc_bb, sc_ni, sc_in, sc_is, sc_si, sc_nn, decide_true, decide_false, reduceCtorEq, Bool.false_eq_true, if_true, if_false, ite_true, ite_false, exists_const, eq_self, false_and, and_false, or_false, false_or, exists_false, Evl.rLenS, rSum, wipe, tYes, exists_eq, exists_eq', rIxL, rIxT, rIxS, exists_and_right, gt_iff_lt, not_true_eq_false, not_false_eq_true, Bool.not_true, Bool.not_false, decide_eq_true_eq, Nat.reduceSub, Nat.reduceAdd, List.append_assoc, tChain, tDIn, tDNotIn, sDDel, tAug, ipI, rInt1_int, rInt1_bl]
    refine de_cat (ds := ((((odd0 c wd [.int c, .str wd, kD k] (ddD (c, wd, k)) g (n : Nat)) ++ odd1 c wd [.int c, .str wd, kD k] (ddD (c, wd, k)) g (n : Nat)) ++ odd2 c wd [.int c, .str wd, kD k] (ddD (c, wd, k)) g (n : Nat)) ++ odd3 c wd [.int c, .str wd, kD k] (ddD (c, wd, k)) g (n : Nat)) ++ odd4 c wd [.int c, .str wd, kD k] (ddD (c, wd, k)) g (n : Nat)) (es := odd5 c wd [.int c, .str wd, kD k] (ddD (c, wd, k)) g (n : Nat)) (de_var rfl h4) (de_lst ?_ (by simp [odd5])) (by simp [odd0, odd1, odd2, odd3, odd4]) (by simp [odd5]) G4 (Kp.refl _ _) _ fun v5 G5 k5 h5 => ?_
    · unfold odd5
      repeat' first | exact da_nil | refine da_cons ?_ ?_ | refine de_tup ?_ (by simp) | refine de_lst ?_ (by simp) | exact de_int | exact de_str | exact de_bl | exact de_non | exact de_neg | exact de_var rfl hD | exact de_var rfl (.int _) | exact de_list2 (de_var rfl hD) | exact de_ix (j := 0) rfl ht' rfl (.int _) | exact de_ix (j := 1) rfl ht' rfl (.str _) | exact de_add rfl | refine de_catA (de_var rfl hD) ?_ (by simp) (by simp) (by simp) (by simp)
    have hD := Dq.kp k5 hD
    have ht' := k5 _ _ not0 ht'
    try simp (maxSteps := 1000000) only [tSeq, tIfS, tTest, rI0, rI, rU, rEq, rNe, tRet, tRetN, tAsg, gName, gSub, tBM, tBM0, tNext, tB, tNot, tAnd, tOr, tIf, tCall, tDrop, tBreak, tCont, L2.start, tDGet, sDPut, tDNewK, tRevL, rCat, rAppend, rPop, rSetL, tAndV, tOrV, tNotV, tSl, tPart, tNoPart, tM1, gTup, gCons, gNil, cxK, cxnK, List.map_cons, List.map_nil, List.length_cons, List.length_nil, List.replicate, List.cons_append, List.nil_append, List.append_nil, List.set_cons_zero, List.set_cons_succ, List.getElem?_cons_zero, List.getElem?_cons_succ, Option.some.injEq, V.ref.injEq, V.int.injEq, V.str.injEq, V.bl.injEq, V.ty.injEq, exists_eq_left', exists_eq_left, exists_and_left, List.cons.injEq, and_true, true_and, sc_ii, sc_ss, sc_bb, sc_ni, sc_in, sc_is, sc_si, sc_nn, decide_true, decide_false, reduceCtorEq, Bool.false_eq_true, if_true, if_false, ite_true, ite_false, exists_const, eq_self, false_and, and_false, or_false, false_or, exists_false, Evl.rLenS, rSum, wipe, tYes, exists_eq, exists_eq', rIxL, rIxT, rIxS, exists_and_right, gt_iff_lt, not_true_eq_false, not_false_eq_true, Bool.not_true, Bool.not_false, decide_eq_true_eq, Nat.reduceSub, Nat.reduceAdd, List.append_assoc, tChain, tDIn, tDNotIn, sDDel, tAug, ipI, rInt1_int, rInt1_bl]
    refine de_cat (ds := (((((odd0 c wd [.int c, .str wd, kD k] (ddD (c, wd, k)) g (n : Nat)) ++ odd1 c wd [.int c, .str wd, kD k] (ddD (c, wd, k)) g (n : Nat)) ++ odd2 c wd [.int c, .str wd, kD k] (ddD (c, wd, k)) g (n : Nat)) ++ odd3 c wd [.int c, .str wd, kD k] (ddD (c, wd, k)) g (n : Nat)) ++ odd4 c wd [.int c, .str wd, kD k] (ddD (c, wd, k)) g (n : Nat)) ++ odd5 c wd [.int c, .str wd, kD k] (ddD (c, wd, k)) g (n : Nat)) (es := odd6 c wd [.int c, .str wd, kD k] (ddD (c, wd, k)) g (n : Nat)) (de_var rfl h5) (de_lst ?_ (by simp [odd6])) (by simp [odd0, odd1, odd2, odd3, odd4, odd5]) (by simp [odd6]) G5 (Kp.refl _ _) _ fun v6 G6 k6 h6 => ?_
    · unfold odd6
      repeat' first | exact da_nil | refine da_cons ?_ ?_ | refine de_tup ?_ (by simp) | refine de_lst ?_ (by simp) | exact de_int | exact de_str | exact de_bl | exact de_non | exact de_neg | exact de_var rfl hD | exact de_var rfl (.int _) | exact de_list2 (de_var rfl hD) | exact de_ix (j := 0) rfl ht' rfl (.int _) | exact de_ix (j := 1) rfl ht' rfl (.str _) | exact de_add rfl | refine de_catA (de_var rfl hD) ?_ (by simp) (by simp) (by simp) (by simp)
    have hD := Dq.kp k6 hD
    have ht' := k6 _ _ not0 ht'
    try simp (maxSteps := 1000000) only [tSeq, tIfS, tTest, rI0, rI, rU, rEq, rNe, tRet, tRetN, tAsg, gName, gSub, tBM, tBM0, tNext, tB, tNot, tAnd, tOr, tIf, tCall, tDrop, tBreak, tCont, L2.start, tDGet, sDPut, tDNewK, tRevL, rCat, rAppend, rPop, rSetL, tAndV, tOrV, tNotV, tSl, tPart, tNoPart, tM1, gTup, gCons, gNil, cxK, cxnK, List.map_cons, List.map_nil, List.length_cons, List.length_nil, List.replicate, List.cons_append, List.nil_append, List.append_nil, List.set_cons_zero, List.set_cons_succ, List.getElem?_cons_zero, List.getElem?_cons_succ, Option.some.injEq, V.ref.injEq, V.int.injEq, V.str.injEq, V.bl.injEq, V.ty.injEq, exists_eq_left', exists_eq_left, exists_and_left, List.cons.injEq, and_true, true_and, sc_ii, sc_ss, sc_bb, sc_ni, sc_in, sc_is, sc_si, sc_nn, decide_true, decide_false, reduceCtorEq, Bool.false_eq_true, if_true, if_false, ite_true, ite_false, exists_const, eq_self, false_and, and_false, or_false, false_or, exists_false, Evl.rLenS, rSum, wipe, tYes, exists_eq, exists_eq', rIxL, rIxT, rIxS, exists_and_right, gt_iff_lt, not_true_eq_false, not_false_eq_true, Bool.not_true, Bool.not_false, decide_eq_true_eq, Nat.reduceSub, Nat.reduceAdd, List.append_assoc, tChain, tDIn, tDNotIn, sDDel, tAug, ipI, rInt1_int, rInt1_bl]
    refine de_cat (ds := ((((((odd0 c wd [.int c, .str wd, kD k] (ddD (c, wd, k)) g (n : Nat)) ++ odd1 c wd [.int c, .str wd, kD k] (ddD (c, wd, k)) g (n : Nat)) ++ odd2 c wd [.int c, .str wd, kD k] (ddD (c, wd, k)) g (n : Nat)) ++ odd3 c wd [.int c, .str wd, kD k] (ddD (c, wd, k)) g (n : Nat)) ++ odd4 c wd [.int c, .str wd, kD k] (ddD (c, wd, k)) g (n : Nat)) ++ odd5 c wd [.int c, .str wd, kD k] (ddD (c, wd, k)) g (n : Nat)) ++ odd6 c wd [.int c, .str wd, kD k] (ddD (c, wd, k)) g (n : Nat)) (es := odd7 c wd [.int c, .str wd, kD k] (ddD (c, wd, k)) g (n : Nat)) (de_var rfl h6) (de_lst ?_ (by simp [odd7])) (by simp [odd0, odd1, odd2, odd3, odd4, odd5, odd6]) (by simp [odd7]) G6 (Kp.refl _ _) _ fun v7 G7 k7 h7 => ?_
    · unfold odd7
      repeat' first | exact da_nil | refine da_cons ?_ ?_ | refine de_tup ?_ (by simp) | refine de_lst ?_ (by simp) | exact de_int | exact de_str | exact de_bl | exact de_non | exact de_neg | exact de_var rfl hD | exact de_var rfl (.int _) | exact de_list2 (de_var rfl hD) | exact de_ix (j := 0) rfl ht' rfl (.int _) | exact de_ix (j := 1) rfl ht' rfl (.str _) | exact de_add rfl | refine de_catA (de_var rfl hD) ?_ (by simp) (by simp) (by simp) (by simp)
    have hD := Dq.kp k7 hD
    have ht' := k7 _ _ not0 ht'
    try simp (maxSteps := 1000000) only [tSeq, tIfS, tTest, rI0, rI, rU, rEq, rNe, tRet, tRetN, tAsg, gName, gSub, tBM, tBM0, tNext, tB, tNot, tAnd, tOr, tIf, tCall, tDrop, tBreak, tCont, L2.start, tDGet, sDPut, tDNewK, tRevL, rCat, rAppend, rPop, rSetL, tAndV, tOrV, tNotV, tSl, tPart, tNoPart, tM1, gTup, gCons, gNil, cxK, cxnK, List.map_cons, List.map_nil, List.length_cons, List.length_nil, List.replicate, List.cons_append, List.nil_append, List.append_nil, List.set_cons_zero, List.set_cons_succ, List.getElem?_cons_zero, List.getElem?_cons_succ, Option.some.injEq, V.ref.injEq, V.int.injEq, V.str.injEq, V.bl.injEq, V.ty.injEq, exists_eq_left', exists_eq_left, exists_and_left, List.cons.injEq, and_true, true_and, sc_ii, sc_ss, sc_bb, sc_ni, sc_in, sc_is, sc_si, sc_nn, decide_true, decide_false, reduceCtorEq, Bool.false_eq_true, if_true, if_false, ite_true, ite_false, exists_const, eq_self, false_and, and_false, or_false, false_or, exists_false, Evl.rLenS, rSum, wipe, tYes, exists_eq, exists_eq', rIxL, rIxT, rIxS, exists_and_right, gt_iff_lt, not_true_eq_false, not_false_eq_true, Bool.not_true, Bool.not_false, decide_eq_true_eq, Nat.reduceSub, Nat.reduceAdd, List.append_assoc, tChain, tDIn, tDNotIn, sDDel, tAug, ipI, rInt1_int, rInt1_bl]
    refine de_cat (ds := (((((((odd0 c wd [.int c, .str wd, kD k] (ddD (c, wd, k)) g (n : Nat)) ++ odd1 c wd [.int c, .str wd, kD k] (ddD (c, wd, k)) g (n : Nat)) ++ odd2 c wd [.int c, .str wd, kD k] (ddD (c, wd, k)) g (n : Nat)) ++ odd3 c wd [.int c, .str wd, kD k] (ddD (c, wd, k)) g (n : Nat)) ++ odd4 c wd [.int c, .str wd, kD k] (ddD (c, wd, k)) g (n : Nat)) ++ odd5 c wd [.int c, .str wd, kD k] (ddD (c, wd, k)) g (n : Nat)) ++ odd6 c wd [.int c, .str wd, kD k] (ddD (c, wd, k)) g (n : Nat)) ++ odd7 c wd [.int c, .str wd, kD k] (ddD (c, wd, k)) g (n : Nat)) (es := odd8 c wd [.int c, .str wd, kD k] (ddD (c, wd, k)) g (n : Nat)) (de_var rfl h7) (de_lst ?_ (by simp [odd8])) (by simp [odd0, odd1, odd2, odd3, odd4, odd5, odd6, odd7]) (by simp [odd8]) G7 (Kp.refl _ _) _ fun v8 G8 k8 h8 => ?_
    · unfold odd8
      repeat' first | exact da_nil | refine da_cons ?_ ?_ | refine de_tup ?_ (by simp) | refine de_lst ?_ (by simp) | exact de_int | exact de_str | exact de_bl | exact de_non | exact de_neg | exact de_var rfl hD | exact de_var rfl (.int _) | exact de_list2 (de_var rfl hD) | exact de_ix (j := 0) rfl ht' rfl (.int _) | exact de_ix (j := 1) rfl ht' rfl (.str _) | exact de_add rfl | refine de_catA (de_var rfl hD) ?_ (by simp) (by simp) (by simp) (by simp)
    exact q v8 G8 (((((((((k0.trans k1).trans k2).trans k3).trans k4).trans k5).trans k6).trans k7).trans k8)) h8
end
end My

set_option Elab.async false
set_option linter.all false
set_option maxRecDepth 100000
set_option maxHeartbeats 4000000
namespace My
open PySem L2 NdefX
theorem map_eraseI {α β : Type} (f : α → β) : ∀ (l : List α) (j : Nat), (l.eraseIdx j).map f = (l.map f).eraseIdx j
  | [], _ => rfl
  | x :: l, 0 => rfl
  | x :: l, j + 1 => by
    show f x :: (l.eraseIdx j).map f = f x :: (l.map f).eraseIdx j
    rw [map_eraseI f l j]
theorem odd_len (d : Dd) (g n : Int) : (oddAll d g n).length = 35 := rfl
theorem odd_bad {d : Dd} {g : Int} {n : Nat} : ∀ x ∈ oddAll d g (n : Nat), moveB (n : Nat) x = false := by
  intro x hx
  simp only [oddAll, odd0, odd1, odd2, odd3, odd4, odd5, odd6, odd7, odd8, List.cons_append, List.nil_append, List.mem_cons, List.not_mem_nil, or_false] at hx
  have kk : ∀ k : Key, deedB (.tuple [.int d.1, .str d.2.1, kD k, .int 0]) = false := fun _ => rfl
  rcases hx with rfl | rfl | rfl | rfl | rfl | rfl | rfl | rfl | rfl | rfl | rfl | rfl | rfl | rfl | rfl | rfl | rfl | rfl | rfl | rfl | rfl | rfl | rfl | rfl | rfl | rfl | rfl | rfl | rfl | rfl | rfl | rfl | rfl | rfl | rfl
  all_goals first
    | rfl
    | (show (_ && _) = false; rw [Bool.and_eq_false_iff]; left; decide +kernel)
    | (show (_ && (decide _ && decide _)) = false; rw [Bool.and_eq_false_iff]; right; rw [Bool.and_eq_false_iff, decide_eq_false_iff_not, decide_eq_false_iff_not]; omega)
    | (show (_ && _) = false; rw [Bool.and_eq_false_iff]; right; rfl)
    | (show (_ && belowD _ (.int _)) = false; rw [Bool.and_eq_false_iff]; right; rw [← Bool.not_eq_true, below_iff]; rintro ⟨i, e, _, h⟩; have e := PyData.int.inj e; omega)
theorem not_mv {n : Nat} {x : PyData} (h : moveB (n : Nat) x = false) (m : Mv) (e : x = mvD m) (gd : GoodDd m.1) (g0 : 0 ≤ m.2) (g1 : m.2 < n) : False := by
  subst e
  have : (deedB (ddD m.1) && belowD (n : Nat) (.int m.2)) = true := by
    rw [deedB_iff.mpr ⟨_, rfl, gd⟩, below_iff.mpr ⟨_, rfl, g0, g1⟩]; rfl
  have h : (deedB (ddD m.1) && belowD (n : Nat) (.int m.2)) = false := h
  rw [this] at h; cases h
/-- a row that holds no good move somewhere is bad, whatever else it holds -/
theorem bad_odd {n : Nat} {ds : List PyData} {x : PyData} (hx : x ∈ ds) (h : moveB (n : Nat) x = false) : BadRw n ds := by
  rintro ms rfl g
  obtain ⟨m, hm, rfl⟩ := List.mem_map.mp hx
  exact not_mv h m rfl (g.deed m hm) (g.goal m hm).1 (g.goal m hm).2
/-- a row that has a move of the deed d, and gets one more, is bad -/
theorem bad_twice {n : Nat} {a b : List PyData} {d : Dd} {g g' : Int} (h : mvD (d, g) ∈ a ++ b) : BadRw n (a ++ [mvD (d, g')] ++ b) := by
  rintro ms e gr
  have two : ∀ {xs : List Mv} {i j : Nat}, i < j → (xs.map (·.1)).Nodup → ∀ {x y : Mv}, xs[i]? = some x → xs[j]? = some y → x.1 ≠ y.1 := by
    intro xs i j hij nd x y hx hy he
    have li := (List.getElem?_eq_some_iff.mp hx).1
    have lj := (List.getElem?_eq_some_iff.mp hy).1
    have := List.pairwise_iff_getElem.mp (List.nodup_iff_pairwise_ne.mp nd) i j (by rw [List.length_map]; exact li) (by rw [List.length_map]; exact lj) hij
    rw [List.getElem_map, List.getElem_map, (List.getElem?_eq_some_iff.mp hx).2, (List.getElem?_eq_some_iff.mp hy).2] at this
    exact this he
  have at_ : ∀ {i : Nat} {m : Mv}, (a ++ [mvD (d, g')] ++ b)[i]? = some (mvD m) → ms[i]? = some m := by
    intro i m hm
    rw [e, List.getElem?_map] at hm
    obtain ⟨m', em, h'⟩ := Option.map_eq_some_iff.mp hm
    rw [mvD_inj h'] at em
    exact em
  have mid : ms[a.length]? = some (d, g') := at_ (by rw [List.append_assoc, List.getElem?_append_right (Nat.le_refl _), Nat.sub_self]; rfl)
  rcases List.mem_append.mp h with h | h
  · obtain ⟨i, ei⟩ := List.getElem?_of_mem h
    have li := (List.getElem?_eq_some_iff.mp ei).1
    exact two li gr.uniq (at_ (m := (d, g)) (by rw [List.append_assoc, List.getElem?_append_left li]; exact ei)) mid rfl
  · obtain ⟨i, ei⟩ := List.getElem?_of_mem h
    have hi : ms[a.length + 1 + i]? = some (d, g) := at_ (by
      rw [List.getElem?_append_right (by rw [List.length_append, List.length_singleton]; omega), List.length_append, List.length_singleton, show a.length + 1 + i - (a.length + 1) = i by omega]; exact ei)
    exact two (by omega) gr.uniq mid hi rfl
/-- what is put into a bad row leaves it bad -/
theorem BadRw.put {n : Nat} {a b : List PyData} {x : PyData} (h : BadRw n (a ++ b)) : BadRw n (a ++ [x] ++ b) := by
  rintro ms e g
  have l := congrArg List.length e
  rw [List.length_map, List.length_append, List.length_append, List.length_singleton] at l
  refine h (ms.eraseIdx a.length) ?_ ⟨fun m hm => g.deed m (List.mem_of_mem_eraseIdx hm), fun m hm => g.goal m (List.mem_of_mem_eraseIdx hm), ?_, ?_⟩
  · have e2 := congrArg (fun l => l.eraseIdx a.length) e
    have e2 : (a ++ [x] ++ b).eraseIdx a.length = (ms.map mvD).eraseIdx a.length := e2
    rw [List.append_assoc, List.eraseIdx_append_of_length_le (Nat.le_refl _), Nat.sub_self] at e2
    rw [map_eraseI]
    exact e2
  · rw [map_eraseI]
    exact g.uniq.sublist (List.eraseIdx_sublist _ _)
  · have := g.len
    rw [List.length_eraseIdx]
    split <;> omega
end My

set_option Elab.async false
set_option linter.all false
set_option maxRecDepth 100000
set_option maxHeartbeats 4000000
namespace My
open PySem L2 NdefX
abbrev s_law_spoil : Stmt := top 27
theorem sc_law_spoil : FnScope ["_law_rows_here", "_law_clean", "_law_menu_here", "_law_cell_here", "_law_size", "_law_draws_here", "_law_at", "_law_good", "_law_new", "_law_place"] ["_law_rows_here", "_law_clean", "_law_menu_here", "_law_cell_here"] (defScope s_law_spoil) := ⟨rfl, rfl, rfl, by decide +kernel, rfl, by decide +kernel, by decide +kernel⟩
/-- the heap without D -/
def hWo (D : Addr) (H : Hp) : Hp := fun x => if x = D then none else H x
theorem er_ne {D x : Addr} {H : Hp} (h : x ≠ D) : hWo D H x = H x := if_neg h
theorem er_some {D x : Addr} {H : Hp} {u : HO} (h : hWo D H x = some u) : x ≠ D ∧ H x = some u := by
  unfold hWo at h
  split at h
  · cases h
  · exact ⟨by assumption, h⟩
theorem er_kp {D : Addr} {H : Hp} : Kp [] (hWo D H) H := fun x u _ e => (er_some e).2
theorem Kp.wo {D : Addr} {H H' : Hp} (k : Kp [D] H H') : Kp [] (hWo D H) (hWo D H') := fun x u _ e => by
  obtain ⟨n, e⟩ := er_some e
  rw [er_ne n]; exact k x u (not1 n) e
theorem hWo_upd {a : Addr} {H : Hp} {u : HO} : hWo a (upd H a u) = hWo a H := funext fun x => by
  unfold hWo
  split
  · rfl
  · exact upd_ne (by assumption)
theorem tp_er {D : Addr} {H : Hp} {ys : List V} (h : H D = some (.lst ys)) : Tp H (hWo D H) := fun a xs e => by
  rw [er_ne (fun z => by rw [z, h] at e; cases e)]; exact e
theorem RwN.wo {D : Addr} {H : Hp} {v : V} {ms : List Mv} {ys : List V} (hD : H D = some (.lst ys)) (h : RwN D H v ms) : RwAt (hWo D H) v ms := by
  obtain ⟨a, us, e, n, h, r⟩ := h
  exact ⟨a, us, e, by rw [er_ne n]; exact h, rwTM r (tp_er hD)⟩
mutual
/-- no list in it is empty or begins with a list -/
def noL : PyData → Bool
  | .list ds => noH ds && noLAll ds
  | .tuple ds => noLAll ds
  | _ => true
def noH : List PyData → Bool
  | [] => false
  | .list _ :: _ => false
  | _ => true
def noLAll : List PyData → Bool
  | [] => true
  | d :: ds => noL d && noLAll ds
end
theorem noLAll_mem : ∀ {ds : List PyData}, noLAll ds = true → ∀ d ∈ ds, noL d = true
  | d :: ds, h, e, he => by
    have h' : (noL d && noLAll ds) = true := h
    rw [Bool.and_eq_true] at h'
    rcases List.mem_cons.mp he with rfl | he
    · exact h'.1
    · exact noLAll_mem h'.2 e he
section
variable {D r : Addr} {H : Hp} {rs us : List V}
mutual
theorem Dq.wo (hD : H D = some (.lst (.ref r :: rs))) (hr : H r = some (.lst us)) : ∀ {d : PyData} {v : V}, Dq H v d → noL d = true → Dq (hWo D H) v d
  | _, _, .non, _ => .non
  | _, _, .bl b, _ => .bl b
  | _, _, .int i, _ => .int i
  | _, _, .str x, _ => .str x
  | _, _, .lst (a := a) (ds := ds) e h, n => by
    have n' : (noH ds && noLAll ds) = true := n
    rw [Bool.and_eq_true] at n'
    refine .lst (by
      rw [er_ne]; exact e
      intro z
      rw [z, hD] at e
      cases e
      cases h with
      | cons h1 h2 =>
        cases h1 with
        | lst e1 _ => exact absurd n'.1 (by simp [noH])
        | tup e1 _ => rw [hr] at e1; cases e1) (DqAll.wo hD hr h n'.2)
  | _, _, .tup (a := a) e h, n => .tup (by
      rw [er_ne]; exact e
      intro z
      rw [z, hD] at e; cases e) (DqAll.wo hD hr h n)
theorem DqAll.wo (hD : H D = some (.lst (.ref r :: rs))) (hr : H r = some (.lst us)) : ∀ {ds : List PyData} {vs : List V}, DqAll H vs ds → noLAll ds = true → DqAll (hWo D H) vs ds
  | _, _, .nil, _ => .nil
  | d :: ds, _, .cons h t, n => by
    have n' : (noL d && noLAll ds) = true := n
    rw [Bool.and_eq_true] at n'
    exact .cons (Dq.wo hD hr h n'.1) (DqAll.wo hD hr t n'.2)
end
end
theorem szDd {d : Dd} (h : GoodDd d) : szD (ddD d) = true := by
  have := szMv (m := (d, 0)) h
  have t : (szD (ddD d) && (true && true)) = true := this
  rw [Bool.and_eq_true] at t
  exact t.1
theorem szAll_app {a b : List PyData} : szAll (a ++ b) = (szAll a && szAll b) := by
  induction a with
  | nil => rfl
  | cons x a ih =>
    show (szD x && szAll (a ++ b)) = ((szD x && szAll a) && szAll b)
    rw [ih, Bool.and_assoc]
theorem odd_noL {d : Dd} {g n : Int} : ∀ x ∈ oddAll d g n, noL x = true := by
  obtain ⟨c, w, k⟩ := d
  refine noLAll_mem ?_
  cases k <;> rfl
theorem odd_sz {d : Dd} {g n : Int} (h : GoodDd d) : ∀ x ∈ oddAll d g n, szD x = true := by
  have z := szDd h
  obtain ⟨c, w, k⟩ := d
  have t : (true && (decide (w.length ≤ 1000) && (szD (kD k) && true))) = true := z
  rw [Bool.and_eq_true, Bool.and_eq_true, Bool.and_eq_true] at t
  obtain ⟨_, t1, t2, _⟩ := t
  have t1 : w.length ≤ 1000 := of_decide_eq_true t1
  refine szAll_mem ?_
  simp only [oddAll, odd0, odd1, odd2, odd3, odd4, odd5, odd6, odd7, odd8, List.cons_append, List.nil_append, szAll, szD, ddD, t2, decide_eq_true t1, Bool.and_true, Bool.true_and]
  decide +kernel
/-- a row as it was, or a bad one -/
def SpR (n : Nat) (ms : List Mv) (ds : List PyData) : Prop := ds = ms.map mvD ∨ BadRw n ds
theorem dqGet {H : Hp} : ∀ {ds : List PyData} {vs : List V}, DqAll H vs ds → ∀ (k : Nat), DqAll H (vs.take k) (ds.take k) ∧ DqAll H (vs.drop k) (ds.drop k)
  | _, _, .nil, k => by rw [List.take_nil, List.take_nil, List.drop_nil, List.drop_nil]; exact ⟨.nil, .nil⟩
  | _, _, .cons h t, 0 => ⟨.nil, .cons h t⟩
  | _, _, .cons h t, k + 1 => ⟨.cons h (dqGet t k).1, (dqGet t k).2⟩
theorem dqApp {H : Hp} : ∀ {as bs : List PyData} {us vs : List V}, DqAll H us as → DqAll H vs bs → DqAll H (us ++ vs) (as ++ bs)
  | _, _, _, _, .nil, h => h
  | _, _, _, _, .cons x t, h => .cons x (dqApp t h)
theorem rwSet {α : Type} {R : V → α → Prop} {us : List V} {gs : List α} (h : Rw R us gs) {v : V} {x : α} (i : Nat) (hv : R v x) : Rw R (us.set i v) (gs.set i x) := ⟨by simp [h.len], fun {j u} e => by
  rw [List.getElem?_set] at e ⊢
  by_cases z : i = j
  · rw [if_pos z] at e ⊢
    subst z
    split at e
    · rename_i l
      rw [if_pos (by rw [← h.len]; exact l)]
      cases e
      exact ⟨x, rfl, hv⟩
    · cases e
  · rw [if_neg z] at e ⊢
    exact h.get e⟩
section
variable {P : Program} {w : World} {K : PySem.W.Frag} {mg : Str → Option Value} {base : Heap} {t1 : Tok}
def spSpoil : Sp := fun vs H Q _ => ∃ (a cl mn : Addr) (c : Int) (rs rs0 us : List V) (rowsD : List (List PyData)) (rows : List (List Mv)) (ds : List Dd) (m : Nat), vs = [.ref a, .ref cl, .ref mn, .int c] ∧ 0 ≤ c ∧ H a = some (.lst rs) ∧ Rw (RwD (hWo a H)) rs rowsD ∧
  H cl = some (.lst rs0) ∧ cl ≠ a ∧ Rw (RwAt H) rs0 rows ∧ 1 ≤ rows.length ∧ rows.length ≤ 100 ∧ (∀ r ∈ rows, G6 rows.length r) ∧ H mn = some (.lst us) ∧ Rw (TDv H) us ds ∧ MenuOk ds ∧ rowsD.length = rows.length ∧
  (∀ (i : Nat) ms dd, rows[i]? = some ms → rowsD[i]? = some dd → SpR rows.length ms dd ∧ szAll dd = true ∧ dd.length ≤ 60 + m) ∧ m ≤ 20 ∧
  ∀ (i : Nat) (rs' : List V) (dd : List PyData) H', i < rows.length → H' a = some (.lst rs') → Rw (RwD (hWo a H')) rs' (rowsD.set i dd) → BadRw rows.length dd → szAll dd = true → dd.length ≤ 60 + (m + 2) → Kp [a] H H' → Q (.int (i : Nat)) H'
theorem ok_law_spoil {f : Addr} {fd : FuncData} (D : Df K mg "_law_spoil" s_law_spoil ["_law_rows_here", "_law_clean", "_law_menu_here", "_law_cell_here"] f fd) (T : BtG mg) {g1 : Addr} {gd1 : FuncData} (D_law_draws : Df K mg "_law_draws" s_law_draws ["_law_cell_here", "_law_spans"] g1 gd1) (G_law_draws : FnOk P w K mg base CX0 1 g1 gd1 ["_law_cell_here", "_law_spans"] (spDraws K))
    {g2 : Addr} {gd2 : FuncData} (D_law_odd : Df K mg "_law_odd" s_law_odd ["_law_good", "_law_size"] g2 gd2) (G_law_odd : FnOk P w K mg base CX0 1 g2 gd2 ["_law_good", "_law_size"] spOdd) : FnOk P w K mg base CX0 2 f fd ["_law_rows_here", "_law_clean", "_law_menu_here", "_law_cell_here"] spSpoil := by
  refine D.F.ok sc_law_spoil (fun vs H Q E h => ?_) (fun cdv A outer s H vs Q E hr h => ?_)
  · obtain ⟨_, _, _, _, _, _, _, _, _, _, _, rfl, _⟩ := h
    rfl
  · obtain ⟨a, cl, mn, c, rs, rs0, us, rowsD, rows, ds, m, rfl, c0, ha, hrs, hcl, ncl, hrows, l1, l2, hg, hmn, hus, hm, lD, hD, m20, q⟩ := h
    refine ⟨_, (pss_cons (ps_set (i := 4) sc_law_spoil.nd rfl (Or.inl rfl) (pe_callB (id := "len") (r := Evl.rLenS K) call_len_seq (by rfl) T.b_len PySem.boot_len (pa_cons (pv 1) pa_nil)))
      (pss_cons (ps_set (i := 5) sc_law_spoil.nd rfl (Or.inl rfl) (pe_call G_law_draws (hr.mono (by decide)) rfl D_law_draws.g D_law_draws.F.kp D_law_draws.b .nil pass0 (pa_cons (pv 3) (pa_cons (pe_lst (pa_cons (pv 4) (pa_cons (pe_callB (id := "len") (r := Evl.rLenS K) call_len_seq (by rfl) T.b_len PySem.boot_len (pa_cons (pv 2) pa_nil)) (pa_cons (pv 4) (pa_cons pe_int (pa_cons pe_int (pa_cons pe_int pa_nil))))))) pa_nil))))
      (pss_cons (ps_set (i := 6) sc_law_spoil.nd rfl (Or.inl rfl) (pe_ix (r := rIxL K) ix_list (pv 5) pe_int (fun _ _ => rfl)))
      (pss_cons (ps_set (i := 7) sc_law_spoil.nd rfl (Or.inl rfl) (pe_tup (pa_cons (pe_ix (r := rIxL K) ix_list (pv 2) (pe_ix (r := rIxL K) ix_list (pv 5) pe_int (fun _ _ => rfl)) (fun _ _ => rfl)) (pa_cons (pe_ix (r := rIxL K) ix_list (pv 5) pe_int (fun _ _ => rfl)) pa_nil))))
      (pss_cons (ps_set (i := 8) sc_law_spoil.nd rfl (Or.inl rfl) (pv 7))
      (pss_cons (ps_if (pt_cmpR op_lt (pe_ix (r := rIxL K) ix_list (pv 5) pe_int (fun _ _ => rfl)) pe_int (nomark _)) (pss_one (ps_set (i := 8) sc_law_spoil.nd rfl (Or.inl rfl) (pe_ix (r := rIxL K) ix_list (pe_call G_law_odd (hr.mono (by decide)) rfl D_law_odd.g D_law_odd.F.kp D_law_odd.b .nil pass0 (pa_cons (pv 7) (pa_cons (pv 4) pa_nil))) (pe_ix (r := rIxL K) ix_list (pv 5) pe_int (fun _ _ => rfl)) (fun _ _ => rfl)))) (pss_one (ps_if (pt_cmpR op_eq (pe_callB (id := "len") (r := Evl.rLenS K) call_len_seq (by rfl) T.b_len PySem.boot_len (pa_cons (pe_ix (r := rIxL K) ix_list (pv 1) (pv 6) (fun _ _ => rfl)) pa_nil)) pe_int (nomark _)) (pss_one (ps_asg (pe_op op_cat (pe_ix (r := rIxL K) ix_list (pv 0) (pv 6) (fun _ _ => rfl)) (pe_lst (pa_cons (pv 7) pa_nil))) (pg_sub (pv 0) (pv 6) set_list))) (pss_one (ps_set (i := 8) sc_law_spoil.nd rfl (Or.inl rfl) (pe_tup (pa_cons (pe_ix (r := rIxT K) ix_tup (pe_ix (r := rIxL K) ix_list (pe_ix (r := rIxL K) ix_list (pv 1) (pv 6) (fun _ _ => rfl)) (pe_op op_mod (pe_callTy (T := "int") (r := rInt1) call_int1 (by rfl) T.b_int (by decide +kernel) (pa_cons (pe_ix (r := rIxL K) ix_list (pv 5) pe_int (fun _ _ => rfl)) pa_nil)) (pe_callB (id := "len") (r := Evl.rLenS K) call_len_seq (by rfl) T.b_len PySem.boot_len (pa_cons (pe_ix (r := rIxL K) ix_list (pv 1) (pv 6) (fun _ _ => rfl)) pa_nil))) (fun _ _ => rfl)) pe_int (fun _ _ => rfl)) (pa_cons (pe_ix (r := rIxL K) ix_list (pv 5) pe_int (fun _ _ => rfl)) pa_nil))))))))
      (pss_cons (ps_set (i := 9) sc_law_spoil.nd rfl (Or.inl rfl) (pe_op op_mod (pe_callTy (T := "int") (r := rInt1) call_int1 (by rfl) T.b_int (by decide +kernel) (pa_cons (pe_ix (r := rIxL K) ix_list (pv 5) pe_int (fun _ _ => rfl)) pa_nil)) (pe_op op_add (pe_callB (id := "len") (r := Evl.rLenS K) call_len_seq (by rfl) T.b_len PySem.boot_len (pa_cons (pe_ix (r := rIxL K) ix_list (pv 0) (pv 6) (fun _ _ => rfl)) pa_nil)) pe_int)))
      (pss_cons (ps_asg (pe_op op_cat (pe_op op_cat (pe_slice sl_list (pe_ix (r := rIxL K) ix_list (pv 0) (pv 6) (fun _ _ => rfl)) po_none (po_some (pv 9))) (pe_lst (pa_cons (pv 8) pa_nil))) (pe_slice sl_list (pe_ix (r := rIxL K) ix_list (pv 0) (pv 6) (fun _ _ => rfl)) (po_some (pv 9)) po_none)) (pg_sub (pv 0) (pv 6) set_list))
      (pss_one (ps_ret (pv 6))))))))))), ?_⟩
    try simp (maxSteps := 1000000) only [tSeq, tTest, tOp, tUn, tCB, tCons, tNil, tVar, tC, rI0, rI, rU, rEq, rNe, tRet, tRetN, tAsg, gName, gSub, tBM, tBM0, tNext, tB, tNot, tAnd, tOr, tIf, tCall, tDrop, tBreak, tCont, L2.start, tDGet, sDPut, tTup, tLst, tDNewK, tRevL, rCat, rAppend, rPop, rSetL, tAndV, tOrV, tNotV, tSl, tPart, tNoPart, tM1, gTup, gCons, gNil, cxK, cxnK, List.map_cons, List.map_nil, List.length_cons, List.length_nil, List.replicate, List.cons_append, List.nil_append, List.append_nil, List.set_cons_zero, List.set_cons_succ, List.getElem?_cons_zero, List.getElem?_cons_succ, Option.some.injEq, V.ref.injEq, V.int.injEq, V.str.injEq, V.bl.injEq, V.ty.injEq, exists_eq_left', exists_eq_left, exists_and_left, List.cons.injEq, and_true, true_and, sc_ii, sc_ss, sc_bb, sc_ni, sc_in, sc_is, sc_si, sc_nn, decide_true, decide_false, reduceCtorEq, Bool.false_eq_true, if_true, if_false, ite_true, ite_false, exists_const, eq_self, false_and, and_false, or_false, false_or, exists_false, Evl.rLenS, rSum, wipe, tYes, exists_eq, exists_eq', rIxL, rIxT, rIxS, exists_and_right, gt_iff_lt, not_true_eq_false, not_false_eq_true, Bool.not_true, Bool.not_false, decide_eq_true_eq, Nat.reduceSub, Nat.reduceAdd, List.append_assoc, tChain, tDIn, tDNotIn, sDDel, tAug, ipI, rInt1_int, rInt1_bl]
    have lrs0 : rs0.length = rows.length := hrows.len
    have lus : us.length = ds.length := hus.len
    have lrs : rs.length = rows.length := by rw [hrs.len, lD]
    have hlo := hm.lo
    have hhi := hm.hi
    refine ⟨_, .inl (sq_l hcl), _, .inl (sq_l hmn), by rw [sizeLine_eq]; decide, fun p np => ?_⟩
    rw [lrs0, lus]
    have kp := (Kp.new np : Kp [] H (upd H p (.lst [.int (rows.length : Nat), .int (ds.length : Nat), .int (rows.length : Nat), .int 40, .int 60, .int 60])))
    refine ⟨c, p, [(rows.length : Nat), (ds.length : Nat), (rows.length : Nat), 40, 60, 60], rfl, c0, sq_l upd_same, (show 6 ≤ 100 by decide), fun x hx => ?_, fun dr sh H2 n2 hsh dlen hdr k2 => ?_⟩
    · simp at hx
      rcases hx with rfl | rfl | rfl | rfl | rfl | rfl <;> omega
    obtain ⟨z0, z1, z2, z3, z4, z5, rfl⟩ : ∃ z0 z1 z2 z3 z4 z5, dr = [z0, z1, z2, z3, z4, z5] := by
      match dr, dlen with
      | [z0, z1, z2, z3, z4, z5], _ => exact ⟨z0, z1, z2, z3, z4, z5, rfl⟩
    have b0 := hdr 0 z0 _ rfl rfl
    have b1 := hdr 1 z1 _ rfl rfl
    have b2 := hdr 2 z2 _ rfl rfl
    have b3 := hdr 3 z3 40 rfl rfl
    have b4 := hdr 4 z4 60 rfl rfl
    have b5 := hdr 5 z5 60 rfl rfl
    have k02 := kp.trans k2
    have nsh : sh ≠ a := fun z => by rw [z, kp _ _ not0 ha] at n2; cases n2
    generalize upd H p (.lst [.int (rows.length : Nat), .int (ds.length : Nat), .int (rows.length : Nat), .int 40, .int 60, .int 60]) = Hx at kp k2
    obtain ⟨at_, rfl⟩ := Int.eq_ofNat_of_zero_le b0.1
    have hat : at_ < rows.length := by have := b0.2; omega
    have ed : ds[z1.toNat]? = some (ds[z1.toNat]'(by omega)) := List.getElem?_eq_getElem _
    have gd := hm.good (ds[z1.toNat]'(by omega)) (List.getElem_mem _)
    generalize ds[z1.toNat]'(by omega) = d at ed gd
    obtain ⟨u, eu, t, rfl, ht⟩ := hus.at ed
    refine ⟨sh, rfl, _, sq_l hsh, _, rfl, sh, rfl, _, sq_l hsh, _, rfl, _, z1, rfl, sq_l (k02 _ _ not0 hmn), _, atI_of b1.1 eu, sh, rfl, _, sq_l hsh, _, rfl, by rw [sizeLine_eq]; decide, fun pg npg => ?_⟩
    have kg := (Kp.new npg : Kp [] H2 (upd H2 pg (.tup [.ref t, .int z2])))
    have hpg : (upd H2 pg (.tup [.ref t, .int z2])) pg = some (.tup [.ref t, .int z2]) := upd_same
    generalize upd H2 pg (.tup [.ref t, .int z2]) = H3 at kg hpg ⊢
    have k03 := k02.trans kg
    have hsh3 := kg _ _ not0 hsh
    have ht3 : TD H3 t d := k03.tps _ _ ht
    have ha3 := k03 _ _ not0 ha
    have hcl3 := k03 _ _ not0 hcl
    have kE : Kp [] (hWo a H) (hWo a H3) := (k03.of0 (T := [a])).wo
    have hrs3 : Rw (RwD (hWo a H3)) rs rowsD := hrs.mono fun _ _ z => z.kp kE
    have er0 : rows[at_]? = some rows[at_] := List.getElem?_eq_getElem hat
    have gr := hg rows[at_] (List.getElem_mem hat)
    generalize rows[at_] = ms at er0 gr
    have eD0 : rowsD[at_]? = some (rowsD[at_]'(by omega)) := List.getElem?_eq_getElem _
    generalize rowsD[at_]'(by omega) = dd at eD0
    obtain ⟨hSp, hsz, hdl⟩ := hD at_ ms dd er0 eD0
    obtain ⟨v0, ev0, r0, us0, rfl, hr0, hus0⟩ := hrs3.at eD0
    obtain ⟨nr0, hr0'⟩ := er_some hr0
    refine ifs_both (fun σ G => ∃ (vn : V) (dn : PyData) (rs2 : List V) (dd2 : List PyData), σ = [some (.ref a), some (.ref cl), some (.ref mn), some (.int c), some (.int (rows.length : Nat)), some (.ref sh), some (.int (at_ : Nat)), some (.ref pg), some vn, none] ∧ G a = some (.lst rs2) ∧ Rw (RwD (hWo a G)) rs2 (rowsD.set at_ dd2) ∧ Dq (hWo a G) vn dn ∧ szD dn = true ∧ szAll dd2 = true ∧ dd2.length ≤ 60 + m + 1 ∧ (∀ x y, dd2 = x ++ y → BadRw rows.length (x ++ [dn] ++ y)) ∧ G sh = some (.lst ([((at_ : Nat) : Int), z1, z2, z3, z4, z5].map V.int)) ∧ Kp [a] H G) (fun Dn hn => ?_) ?_
    · obtain ⟨ra, ura, rest, ers, hra⟩ : ∃ ra ura rest, rs = .ref ra :: rest ∧ H3 ra = some (.lst ura) := by
        match rs, lrs, hrs3 with
        | [], z, _ => simp at z; omega
        | v :: rest, _, hrs3 =>
          obtain ⟨g, _, ra, ura, rfl, h, _⟩ := hrs3.get (i := 0) (u := v) rfl
          exact ⟨ra, ura, rest, rfl, (er_some h).2⟩
      have eset : rowsD.set at_ dd = rowsD := by
        obtain ⟨h, rfl⟩ := List.getElem?_eq_some_iff.mp eD0
        exact List.set_getElem_self h
      try simp (maxSteps := 1000000) only [tSeq, tIfS, tTest, tOp, tUn, tCB, tCons, tNil, tVar, tC, rI0, rI, rU, rEq, rNe, tRet, tRetN, tAsg, gName, gSub, tBM, tBM0, tNext, tB, tNot, tAnd, tOr, tIf, tCall, tDrop, tBreak, tCont, L2.start, tDGet, sDPut, tTup, tLst, tDNewK, tRevL, rCat, rAppend, rPop, rSetL, tAndV, tOrV, tNotV, tSl, tPart, tNoPart, tM1, gTup, gCons, gNil, cxK, cxnK, List.map_cons, List.map_nil, List.length_cons, List.length_nil, List.replicate, List.cons_append, List.nil_append, List.append_nil, List.set_cons_zero, List.set_cons_succ, List.getElem?_cons_zero, List.getElem?_cons_succ, Option.some.injEq, V.ref.injEq, V.int.injEq, V.str.injEq, V.bl.injEq, V.ty.injEq, exists_eq_left', exists_eq_left, exists_and_left, List.cons.injEq, and_true, true_and, sc_ii, sc_ss, sc_bb, sc_ni, sc_in, sc_is, sc_si, sc_nn, decide_true, decide_false, reduceCtorEq, Bool.false_eq_true, if_true, if_false, ite_true, ite_false, exists_const, eq_self, false_and, and_false, or_false, false_or, exists_false, Evl.rLenS, rSum, wipe, tYes, exists_eq, exists_eq', rIxL, rIxT, rIxS, exists_and_right, gt_iff_lt, not_true_eq_false, not_false_eq_true, Bool.not_true, Bool.not_false, decide_eq_true_eq, Nat.reduceSub, Nat.reduceAdd, List.append_assoc, tChain, tDIn, tDNotIn, sDDel, tAug, ipI, rInt1_int, rInt1_bl]
      refine ⟨_, sq_l hsh3, _, rfl, _, rfl, ite2 (fun h1 => ?_) (fun h1 => ?_)⟩
      · refine ⟨pg, t, rows.length, d, z2, rfl, hpg, ht3, fun v H4 k4 hv4 => ?_⟩
        cases hv4 with
        | @lst po xs _ e h =>
          have lx : xs.length = 35 := h.len
          have ex : xs[z3.toNat]? = some (xs[z3.toNat]'(by omega)) := List.getElem?_eq_getElem _
          generalize xs[z3.toNat]'(by omega) = x5 at ex
          obtain ⟨dn, edn, hdn⟩ := h.get ex
          have mem := List.mem_of_getElem? edn
          refine ⟨_, sq_l (k4 _ _ not0 hsh3), _, rfl, _, rfl, _, z3, rfl, sq_l e, x5, atI_of b3.1 ex, ?_⟩
          have ha4 : H4 a = some (.lst (.ref ra :: rest)) := by rw [← ers]; exact k4 _ _ not0 ha3
          refine hn _ _ ⟨x5, dn, rs, dd, rfl, k4 _ _ not0 ha3, by rw [eset]; exact hrs3.mono fun _ _ z => z.kp (k4.of0 (T := [a])).wo, hdn.wo ha4 (k4 _ _ not0 hra) (odd_noL dn mem), odd_sz gd dn mem, hsz, by omega, fun x y e => bad_odd (by simp) (odd_bad dn mem), k4 _ _ not0 hsh3, (k03.trans k4).of0⟩
      · have hrows3 : Rw (RwAt H3) rs0 rows := hrows.mono fun _ _ z => z.kd k03.kd
        obtain ⟨vc, evc, rc, usc, rfl, hrc, husc⟩ := hrows3.at er0
        have lusc : usc.length = ms.length := husc.len
        refine ⟨_, sq_l hcl3, _, atI_nat evc, rc, rfl, usc, .inl (sq_l hrc), ite2 (fun h2 => ?_) (fun h2 => ?_)⟩
        · have em : ms = [] := List.eq_nil_of_length_eq_zero (by omega)
          subst em
          refine ⟨_, sq_l ha3, _, atI_nat ev0, by rw [sizeLine_eq]; decide, fun p1 np1 => ?_⟩
          have ka := (Kp.new np1 : Kp [] H3 (upd H3 p1 (.lst [.ref pg])))
          have hp1 : (upd H3 p1 (.lst [.ref pg])) p1 = some (.lst [.ref pg]) := upd_same
          generalize upd H3 p1 (.lst [.ref pg]) = G1 at ka hp1 ⊢
          have lu0 : us0.length = dd.length := hus0.len
          refine ⟨r0, rfl, us0, ka _ _ not0 hr0', _, hp1, by rw [lu0, sizeLine_eq]; show dd.length + 1 ≤ _; omega, fun p2 np2 => ?_⟩
          have kb := (Kp.new np2 : Kp [] G1 (upd G1 p2 (.lst (us0 ++ [.ref pg]))))
          have hp2 : (upd G1 p2 (.lst (us0 ++ [.ref pg]))) p2 = some (.lst (us0 ++ [.ref pg])) := upd_same
          generalize upd G1 p2 (.lst (us0 ++ [.ref pg])) = G2 at kb hp2 ⊢
          have kab := ka.trans kb
          have p2a : p2 ≠ a := fun z => by rw [z, ka _ _ not0 ha3] at np2; cases np2
          have kw : Kp [] (hWo a H3) (hWo a G2) := (kab.of0 (T := [a])).wo
          have hgd : Dq (hWo a G2) (.ref pg) (mvD (d, z2)) := by
            have tp := tp_er (D := a) (kab _ _ not0 ha3)
            exact .tup (tp _ _ (kab _ _ not0 hpg)) (.cons (TD.dq (tp _ _ (kab _ _ not0 ht3))) (.cons (.int _) .nil))
          refine ⟨rs, kab _ _ not0 ha3, at_, by rw [ixN_of (by omega) (by omega)]; rfl, ?_⟩
          refine hn _ _ ⟨.ref pg, mvD (d, z2), rs.set at_ (.ref p2), dd ++ [mvD (d, z2)], rfl, upd_same, ?_, by rw [hWo_upd]; exact hgd, szMv (m := (d, z2)) gd, ?_, by rw [List.length_append, List.length_singleton]; omega, ?_, by rw [upd_ne nsh]; exact kab _ _ not0 hsh3, ((k03.trans kab).of0).put (by simp)⟩
          · rw [hWo_upd]
            exact rwSet (hrs3.mono fun _ _ z => z.kp kw) at_ ⟨p2, _, rfl, by rw [er_ne p2a]; exact hp2, dqApp (DqAll.kp kw hus0) (.cons hgd .nil)⟩
          · rw [szAll_app, hsz]; exact szMs (ms := [(d, z2)]) fun m hm => by rw [List.mem_singleton.mp hm]; exact gd
          · intro x y e
            rcases hSp with h | h
            · subst h
              exact bad_twice (g := z2) (by rw [← e]; simp)
            · refine BadRw.put ?_
              rw [← e]
              have := BadRw.put (a := dd) (b := []) (x := mvD (d, z2)) (by rw [List.append_nil]; exact h)
              rw [List.append_nil] at this
              exact this
        · refine ⟨_, sq_l hcl3, _, atI_nat evc, _, sq_l hsh3, _, rfl, ?_⟩
          try simp (maxSteps := 1000000) only [tSeq, tIfS, tTest, tOp, tUn, tCB, tCons, tNil, tVar, tC, rI0, rI, rU, rEq, rNe, tRet, tRetN, tAsg, gName, gSub, tBM, tBM0, tNext, tB, tNot, tAnd, tOr, tIf, tCall, tDrop, tBreak, tCont, L2.start, tDGet, sDPut, tTup, tLst, tDNewK, tRevL, rCat, rAppend, rPop, rSetL, tAndV, tOrV, tNotV, tSl, tPart, tNoPart, tM1, gTup, gCons, gNil, cxK, cxnK, List.map_cons, List.map_nil, List.length_cons, List.length_nil, List.replicate, List.cons_append, List.nil_append, List.append_nil, List.set_cons_zero, List.set_cons_succ, List.getElem?_cons_zero, List.getElem?_cons_succ, Option.some.injEq, V.ref.injEq, V.int.injEq, V.str.injEq, V.bl.injEq, V.ty.injEq, exists_eq_left', exists_eq_left, exists_and_left, List.cons.injEq, and_true, true_and, sc_ii, sc_ss, sc_bb, sc_ni, sc_in, sc_is, sc_si, sc_nn, decide_true, decide_false, reduceCtorEq, Bool.false_eq_true, if_true, if_false, ite_true, ite_false, exists_const, eq_self, false_and, and_false, or_false, false_or, exists_false, Evl.rLenS, rSum, wipe, tYes, exists_eq, exists_eq', rIxL, rIxT, rIxS, exists_and_right, gt_iff_lt, not_true_eq_false, not_false_eq_true, Bool.not_true, Bool.not_false, decide_eq_true_eq, Nat.reduceSub, Nat.reduceAdd, List.append_assoc, tChain, tDIn, tDNotIn, sDDel, tAug, ipI, rInt1_int, rInt1_bl]
          have p0 : (0 : Int) < (usc.length : Nat) := by omega
          have q0 := Int.emod_nonneg z5 (show ((usc.length : Nat) : Int) ≠ 0 by omega)
          have q1 := Int.emod_lt_of_pos z5 p0
          obtain ⟨zk, hzk⟩ : ∃ zk, zk = z5 % ((usc.length : Nat) : Int) := ⟨_, rfl⟩
          rw [← hzk] at q0 q1
          have em : ms[zk.toNat]? = some (ms[zk.toNat]'(by omega)) := List.getElem?_eq_getElem _
          generalize ms[zk.toNat]'(by omega) = mo at em
          obtain ⟨vm, evm, pm, tm, rfl, hpm, htm⟩ := husc.at em
          have memo := List.mem_of_getElem? em
          refine ⟨_, sq_l hcl3, _, atI_nat evc, rc, rfl, usc, .inl (sq_l hrc), p0, usc, sq_l hrc, _, by rw [← hzk]; exact atI_of q0 evm, pm, rfl, _, sq_t hpm, _, rfl, _, sq_l hsh3, _, rfl, ?_⟩
          refine ⟨by rw [sizeLine_eq]; decide, fun p1 np1 => ?_⟩
          have ka := (Kp.new np1 : Kp [] H3 (upd H3 p1 (.tup [.ref tm, .int z2])))
          have hp1 : (upd H3 p1 (.tup [.ref tm, .int z2])) p1 = some (.tup [.ref tm, .int z2]) := upd_same
          generalize upd H3 p1 (.tup [.ref tm, .int z2]) = G1 at ka hp1 ⊢
          have tp := tp_er (D := a) (ka _ _ not0 ha3)
          have gmo := gr.1.deed mo memo
          refine hn _ _ ⟨.ref p1, mvD (mo.1, z2), rs, dd, rfl, ka _ _ not0 ha3, by rw [eset]; exact hrs3.mono fun _ _ z => z.kp (ka.of0 (T := [a])).wo, .tup (tp _ _ hp1) (.cons (TD.dq (tp _ _ (ka.tps _ _ htm))) (.cons (.int _) .nil)), szMv (m := (mo.1, z2)) gmo, hsz, by omega, fun x y e => ?_, ka _ _ not0 hsh3, (k03.trans ka).of0⟩
          rcases hSp with h | h
          · exact bad_twice (d := mo.1) (g := mo.2) (by rw [← e, h]; exact List.mem_map_of_mem memo)
          · exact BadRw.put (by rw [← e]; exact h)
    · rintro σ' G ⟨vn, dn, rs2, dd2, rfl, hG, hrs2, hvn, szn, szd, ldd, hbad, hshG, kG⟩
      try simp (maxSteps := 1000000) only [tSeq, tIfS, tTest, tOp, tUn, tCB, tCons, tNil, tVar, tC, rI0, rI, rU, rEq, rNe, tRet, tRetN, tAsg, gName, gSub, tBM, tBM0, tNext, tB, tNot, tAnd, tOr, tIf, tCall, tDrop, tBreak, tCont, L2.start, tDGet, sDPut, tTup, tLst, tDNewK, tRevL, rCat, rAppend, rPop, rSetL, tAndV, tOrV, tNotV, tSl, tPart, tNoPart, tM1, gTup, gCons, gNil, cxK, cxnK, List.map_cons, List.map_nil, List.length_cons, List.length_nil, List.replicate, List.cons_append, List.nil_append, List.append_nil, List.set_cons_zero, List.set_cons_succ, List.getElem?_cons_zero, List.getElem?_cons_succ, Option.some.injEq, V.ref.injEq, V.int.injEq, V.str.injEq, V.bl.injEq, V.ty.injEq, exists_eq_left', exists_eq_left, exists_and_left, List.cons.injEq, and_true, true_and, sc_ii, sc_ss, sc_bb, sc_ni, sc_in, sc_is, sc_si, sc_nn, decide_true, decide_false, reduceCtorEq, Bool.false_eq_true, if_true, if_false, ite_true, ite_false, exists_const, eq_self, false_and, and_false, or_false, false_or, exists_false, Evl.rLenS, rSum, wipe, tYes, exists_eq, exists_eq', rIxL, rIxT, rIxS, exists_and_right, gt_iff_lt, not_true_eq_false, not_false_eq_true, Bool.not_true, Bool.not_false, decide_eq_true_eq, Nat.reduceSub, Nat.reduceAdd, List.append_assoc, tChain, tDIn, tDNotIn, sDDel, tAug, ipI, rInt1_int, rInt1_bl]
      refine ⟨_, sq_l hshG, _, rfl, ?_⟩
      try simp (maxSteps := 1000000) only [tSeq, tIfS, tTest, tOp, tUn, tCB, tCons, tNil, tVar, tC, rI0, rI, rU, rEq, rNe, tRet, tRetN, tAsg, gName, gSub, tBM, tBM0, tNext, tB, tNot, tAnd, tOr, tIf, tCall, tDrop, tBreak, tCont, L2.start, tDGet, sDPut, tTup, tLst, tDNewK, tRevL, rCat, rAppend, rPop, rSetL, tAndV, tOrV, tNotV, tSl, tPart, tNoPart, tM1, gTup, gCons, gNil, cxK, cxnK, List.map_cons, List.map_nil, List.length_cons, List.length_nil, List.replicate, List.cons_append, List.nil_append, List.append_nil, List.set_cons_zero, List.set_cons_succ, List.getElem?_cons_zero, List.getElem?_cons_succ, Option.some.injEq, V.ref.injEq, V.int.injEq, V.str.injEq, V.bl.injEq, V.ty.injEq, exists_eq_left', exists_eq_left, exists_and_left, List.cons.injEq, and_true, true_and, sc_ii, sc_ss, sc_bb, sc_ni, sc_in, sc_is, sc_si, sc_nn, decide_true, decide_false, reduceCtorEq, Bool.false_eq_true, if_true, if_false, ite_true, ite_false, exists_const, eq_self, false_and, and_false, or_false, false_or, exists_false, Evl.rLenS, rSum, wipe, tYes, exists_eq, exists_eq', rIxL, rIxT, rIxS, exists_and_right, gt_iff_lt, not_true_eq_false, not_false_eq_true, Bool.not_true, Bool.not_false, decide_eq_true_eq, Nat.reduceSub, Nat.reduceAdd, List.append_assoc, tChain, tDIn, tDNotIn, sDDel, tAug, ipI, rInt1_int, rInt1_bl]
      have hi2 : at_ < rowsD.length := by omega
      have eD2 : (rowsD.set at_ dd2)[at_]? = some dd2 := by rw [List.getElem?_set_self hi2]
      obtain ⟨v2, ev2, r2, us2, rfl, hr2, hus2⟩ := hrs2.at eD2
      obtain ⟨nr2, hr2'⟩ := er_some hr2
      have lu2 : us2.length = dd2.length := hus2.len
      refine ⟨_, sq_l hG, _, atI_nat ev2, r2, rfl, us2, .inl (sq_l hr2'), by omega, _, sq_l hG, _, atI_nat ev2, ?_⟩
      have q0 := Int.emod_nonneg z4 (show ((us2.length : Nat) : Int) + 1 ≠ 0 by omega)
      have q1 := Int.emod_lt_of_pos z4 (show (0 : Int) < ((us2.length : Nat) : Int) + 1 by omega)
      generalize z4 % (((us2.length : Nat) : Int) + 1) = zp at q0 q1 ⊢
      obtain ⟨pl, rfl⟩ := Int.eq_ofNat_of_zero_le q0
      refine ⟨r2, us2, rfl, sq_l hr2', fun p1 np1 => ?_⟩
      rw [cut_to]
      have ka := (Kp.new np1 : Kp [] G (upd G p1 (.lst (us2.take pl))))
      have hp1 : (upd G p1 (.lst (us2.take pl))) p1 = some (.lst (us2.take pl)) := upd_same
      generalize upd G p1 (.lst (us2.take pl)) = G1 at ka hp1 ⊢
      refine ⟨by rw [sizeLine_eq]; decide, fun p2 np2 => ?_⟩
      have kb := (Kp.new np2 : Kp [] G1 (upd G1 p2 (.lst [vn])))
      have hp2 : (upd G1 p2 (.lst [vn])) p2 = some (.lst [vn]) := upd_same
      generalize upd G1 p2 (.lst [vn]) = G2 at kb hp2 ⊢
      refine ⟨p1, rfl, _, kb _ _ not0 hp1, _, hp2, by rw [List.length_take, sizeLine_eq]; show _ + 1 ≤ _; omega, fun p3 np3 => ?_⟩
      have kc := (Kp.new np3 : Kp [] G2 (upd G2 p3 (.lst (us2.take pl ++ [vn]))))
      have hp3 : (upd G2 p3 (.lst (us2.take pl ++ [vn]))) p3 = some (.lst (us2.take pl ++ [vn])) := upd_same
      generalize upd G2 p3 (.lst (us2.take pl ++ [vn])) = G3 at kc hp3 ⊢
      have k3 := (ka.trans kb).trans kc
      refine ⟨_, sq_l (k3 _ _ not0 hG), _, atI_nat ev2, ?_⟩
      refine ⟨r2, us2, rfl, sq_l (k3 _ _ not0 hr2'), fun p4 np4 => ?_⟩
      rw [cut_from]
      have kd := (Kp.new np4 : Kp [] G3 (upd G3 p4 (.lst (us2.drop pl))))
      have hp4 : (upd G3 p4 (.lst (us2.drop pl))) p4 = some (.lst (us2.drop pl)) := upd_same
      generalize upd G3 p4 (.lst (us2.drop pl)) = G4 at kd hp4 ⊢
      refine ⟨p4, rfl, _, kd _ _ not0 hp3, _, hp4, by rw [List.length_append, List.length_take, List.length_drop, sizeLine_eq]; show _ + 1 + _ ≤ _; omega, fun p5 np5 => ?_⟩
      have ke := (Kp.new np5 : Kp [] G4 (upd G4 p5 (.lst (us2.take pl ++ [vn] ++ us2.drop pl))))
      have hp5 : (upd G4 p5 (.lst (us2.take pl ++ [vn] ++ us2.drop pl))) p5 = some (.lst (us2.take pl ++ [vn] ++ us2.drop pl)) := upd_same
      generalize upd G4 p5 (.lst (us2.take pl ++ [vn] ++ us2.drop pl)) = G5 at ke hp5 ⊢
      have k5 := (k3.trans kd).trans ke
      have p5a : p5 ≠ a := fun z => by rw [z, (k3.trans kd) _ _ not0 hG] at np5; cases np5
      have kw : Kp [] (hWo a G) (hWo a G5) := (k5.of0 (T := [a])).wo
      have lrs2 : rs2.length = rows.length := by rw [hrs2.len, List.length_set, lD]
      have e2 : dd2.take pl ++ dd2.drop pl = dd2 := List.take_append_drop _ _
      have hd2 := dqGet (DqAll.kp kw hus2) pl
      refine ⟨rs2, k5 _ _ not0 hG, at_, by rw [ixN_of (by omega) (by omega)]; rfl, ?_⟩
      refine q at_ (rs2.set at_ (.ref p5)) (dd2.take pl ++ [dn] ++ dd2.drop pl) _ hat upd_same ?_ (hbad _ _ e2.symm) ?_ ?_ ((kG.trans (k5.of0)).put (by simp))
      · rw [hWo_upd]
        have := rwSet (R := RwD (hWo a G5)) (v := .ref p5) (x := dd2.take pl ++ [dn] ++ dd2.drop pl) (hrs2.mono fun _ _ z => z.kp kw) at_ ⟨p5, _, rfl, by rw [er_ne p5a]; exact hp5, dqApp (dqApp hd2.1 (.cons (Dq.kp kw hvn) .nil)) hd2.2⟩
        rw [List.set_set] at this
        exact this
      · have s2 := szd
        rw [← e2, szAll_app, Bool.and_eq_true] at s2
        rw [szAll_app, szAll_app, s2.1, s2.2]
        show ((true && (szD dn && true)) && true) = true
        rw [szn]; rfl
      · have := congrArg List.length e2
        rw [List.length_append] at this
        rw [List.length_append, List.length_append, List.length_singleton]
        omega
end
end My

set_option Elab.async false
set_option linter.all false
set_option maxRecDepth 100000
set_option maxHeartbeats 4000000
namespace My
open PySem L2 NdefX
abbrev s_law : Stmt := top 34
theorem sc_law : FnScope ["_law_script", "_law_shape", "_law_menu_here", "_law_size", "_law_rows_here", "_law_bad", "_law_first", "_law_j", "_law_k"] ["_law_script"] (defScope s_law) := ⟨rfl, rfl, rfl, by decide +kernel, rfl, by decide +kernel, by decide +kernel⟩
structure BtL (mg : Str → Option Value) : Prop where
  b_len : mg "len" = none
  b_int : mg "int" = none
  b_range : mg "range" = none
  b_min : mg "min" = none
def manyL : List Int := [3, 3, 3, 4, 5, 6, 8]
theorem many_at : ∀ i : Nat, i < 7 → ∃ n : Nat, 3 ≤ n ∧ n ≤ 8 ∧ manyL[i]? = some (n : Int) := by
  intro i h
  match i, h with
  | 0, _ => exact ⟨3, by decide, by decide, rfl⟩
  | 1, _ => exact ⟨3, by decide, by decide, rfl⟩
  | 2, _ => exact ⟨3, by decide, by decide, rfl⟩
  | 3, _ => exact ⟨4, by decide, by decide, rfl⟩
  | 4, _ => exact ⟨5, by decide, by decide, rfl⟩
  | 5, _ => exact ⟨6, by decide, by decide, rfl⟩
  | 6, _ => exact ⟨8, by decide, by decide, rfl⟩
section
variable {P : Program} {w : World} {K : PySem.W.Frag} {mg : Str → Option Value} {base : Heap} {WC NS : Addr}
def spLaw (K : PySem.W.Frag) : Sp := fun vs H Q _ => ∃ (a : Addr) (ns : List Int), vs = [.ref a] ∧ Scr K H a ns ∧ ∀ H', Q (.bl true) H'
theorem ok_law {f : Addr} {fd : FuncData} (D : Df K mg "law" s_law ["_law_script"] f fd) (T : BtL mg)
    {gc : Addr} {gdc : FuncData} (D_law_cell : Df K mg "_law_cell" s_law_cell ["_law_script", "_law_k"] gc gdc) (G_law_cell : FnOk P w K mg base CX0 1 gc gdc ["_law_script", "_law_k"] (spCell K))
    {gw : Addr} {gdw : FuncData} (D_law_draws : Df K mg "_law_draws" s_law_draws ["_law_cell_here", "_law_spans"] gw gdw) (G_law_draws : FnOk P w K mg base CX0 1 gw gdw ["_law_cell_here", "_law_spans"] (spDraws K))
    {gm : Addr} {gdm : FuncData} (D_law_menu : Df K mg "_law_menu" s_law_menu ["_law_cell_here", "_law_many"] gm gdm) (G_law_menu : FnOk P w K mg base CX0 2 gm gdm ["_law_cell_here", "_law_many"] spMenu)
    {gr : Addr} {gdr : FuncData} (D_law_rows : Df K mg "_law_rows" s_law_rows ["_law_script", "_law_menu_here", "_law_wide", "_law_size"] gr gdr) (G_law_rows : FnOk P w K mg base CX0 3 gr gdr ["_law_script", "_law_menu_here", "_law_wide", "_law_size"] (spLRows K))
    {gk : Addr} {gdk : FuncData} (D_law_kept : Df K mg "_law_kept" s_law_kept ["_law_rows_here"] gk gdk) (G_law_kept : FnOk P w K mg base CX0 7 gk gdk ["_law_rows_here"] spKept)
    {gy : Addr} {gdy : FuncData} (D_law_copy : Df K mg "_law_copy" s_law_copy ["_law_rows_here"] gy gdy) (G_law_copy : FnOk P w K mg base CX0 1 gy gdy ["_law_rows_here"] spCopy)
    {gs : Addr} {gds : FuncData} (D_law_spoil : Df K mg "_law_spoil" s_law_spoil ["_law_rows_here", "_law_clean", "_law_menu_here", "_law_cell_here"] gs gds) (G_law_spoil : FnOk P w K mg base CX0 2 gs gds ["_law_rows_here", "_law_clean", "_law_menu_here", "_law_cell_here"] spSpoil)
    {gf : Addr} {gdf : FuncData} (D_law_refused : Df K mg "_law_refused" s_law_refused ["_law_rows_here", "_law_at"] gf gdf) (G_law_refused : FnOk P w K mg base CX0 7 gf gdf ["_law_rows_here", "_law_at"] spRefd)
    {gg : Addr} {gdg : FuncData} (D_law_greatest : Df K mg "_law_greatest" s_law_greatest [] gg gdg) (G_law_greatest : FnOk P w K mg base CX0 7 gg gdg [] spGreat)
    {gt : Addr} {gdt : FuncData} (D_law_too_large : Df K mg "_law_too_large" s_law_too_large ["_law_rows_here"] gt gdt) (G_law_too_large : FnOk P w K mg base CX0 7 gt gdt ["_law_rows_here"] spTooL) : FnOk P w K mg base CX0 8 f fd ["_law_script"] (spLaw K) := by
  refine D.F.ok sc_law (fun vs H Q E h => ?_) (fun cdv A outer s H vs Q E hr h => ?_)
  · obtain ⟨_, _, rfl, _⟩ := h
    rfl
  · obtain ⟨a, ns, rfl, hS, q⟩ := h
    refine ⟨_, (pss_cons (ps_set (i := 1) sc_law.nd rfl (Or.inl rfl) (pe_call G_law_draws (hr.mono (by decide)) rfl D_law_draws.g D_law_draws.F.kp D_law_draws.b .nil pass0 (pa_cons (pe_call G_law_cell (hr.mono (by decide)) rfl D_law_cell.g D_law_cell.F.kp D_law_cell.b .nil pass0 (pa_cons (pv 0) (pa_cons pe_int pa_nil))) (pa_cons (pe_lst (pa_cons pe_int (pa_cons pe_int (pa_cons pe_int (pa_cons pe_int (pa_cons pe_int (pa_cons pe_int pa_nil))))))) pa_nil))))
      (pss_cons (ps_set (i := 2) sc_law.nd rfl (Or.inl rfl) (pe_call G_law_menu (hr.mono (by decide)) rfl D_law_menu.g D_law_menu.F.kp D_law_menu.b .nil pass0 (pa_cons (pe_call G_law_cell (hr.mono (by decide)) rfl D_law_cell.g D_law_cell.F.kp D_law_cell.b .nil pass0 (pa_cons (pv 0) (pa_cons pe_int pa_nil))) (pa_cons (pe_ix (r := rIxL K) ix_list (pe_lst (pa_cons pe_int (pa_cons pe_int (pa_cons pe_int (pa_cons pe_int (pa_cons pe_int (pa_cons pe_int (pa_cons pe_int pa_nil)))))))) (pe_ix (r := rIxL K) ix_list (pv 1) pe_int (fun _ _ => rfl)) (fun _ _ => rfl)) pa_nil))))
      (pss_cons (ps_set (i := 3) sc_law.nd rfl (Or.inl rfl) (pe_op op_add pe_int (pe_ix (r := rIxL K) ix_list (pv 1) pe_int (fun _ _ => rfl))))
      (pss_cons (ps_if (pt_cmpR op_eq (pe_ix (r := rIxL K) ix_list (pv 1) pe_int (fun _ _ => rfl)) pe_int (nomark _)) (pss_one (ps_set (i := 3) sc_law.nd rfl (Or.inl rfl) (pe_op op_add pe_int (pe_ix (r := rIxL K) ix_list (pv 1) pe_int (fun _ _ => rfl))))) pss_nil)
      (pss_cons (ps_set (i := 4) sc_law.nd rfl (Or.inl rfl) (pe_call G_law_rows (hr.mono (by decide)) rfl D_law_rows.g D_law_rows.F.kp D_law_rows.b .nil pass0 (pa_cons (pv 0) (pa_cons (pv 2) (pa_cons (pe_cmpR op_eq (pe_ix (r := rIxL K) ix_list (pv 1) pe_int (fun _ _ => rfl)) pe_int (nomark _)) (pa_cons (pv 3) pa_nil))))))
      (pss_cons (ps_if (pt_not (pt_val (pe_call G_law_kept (hr.mono (by decide)) rfl D_law_kept.g D_law_kept.F.kp D_law_kept.b .nil pass0 (pa_cons (pv 4) pa_nil)))) (pss_one (ps_ret pe_bl)) pss_nil)
      (pss_cons (ps_set (i := 5) sc_law.nd rfl (Or.inl rfl) (pe_call G_law_copy (hr.mono (by decide)) rfl D_law_copy.g D_law_copy.F.kp D_law_copy.b .nil pass0 (pa_cons (pv 4) pa_nil)))
      (pss_cons (ps_set (i := 6) sc_law.nd rfl (Or.inl rfl) (pv 3))
      (pss_cons (ps_for PassesOwn.never rfl (pi_range1 rfl T.b_range (pa_cons (pe_ix (r := rIxL K) ix_list (pv 1) pe_int (fun _ _ => rfl)) pa_nil)) (pg_name (i := 7) sc_law.nd rfl (Or.inl rfl)) (pss_one (ps_set (i := 6) sc_law.nd rfl (Or.inl rfl) (pe_callB (id := "min") (call_min2 rfl) (by rfl) T.b_min (by decide +kernel) (pa_cons (pv 6) (pa_cons (pe_call G_law_spoil (hr.mono (by decide)) rfl D_law_spoil.g D_law_spoil.F.kp D_law_spoil.b .nil pass0 (pa_cons (pv 5) (pa_cons (pv 4) (pa_cons (pv 2) (pa_cons (pe_call G_law_cell (hr.mono (by decide)) rfl D_law_cell.g D_law_cell.F.kp D_law_cell.b .nil pass0 (pa_cons (pv 0) (pa_cons (pe_op op_add pe_int (pv 7)) pa_nil))) pa_nil))))) pa_nil))))))
      (pss_cons (ps_if (PW.pt (pw_and (pt_cmpR op_gt (pe_ix (r := rIxL K) ix_list (pv 1) pe_int (fun _ _ => rfl)) pe_int (nomark _)) (pw_and1 (pt_not (pt_val (pe_call G_law_refused (hr.mono (by decide)) rfl D_law_refused.g D_law_refused.F.kp D_law_refused.b .nil pass0 (pa_cons (pv 5) (pa_cons (pv 6) pa_nil)))))))) (pss_one (ps_ret pe_bl)) pss_nil)
      (pss_cons (ps_if (PW.pt (pw_and (pt_cmpR op_eq (pe_ix (r := rIxL K) ix_list (pv 1) pe_int (fun _ _ => rfl)) pe_int (nomark _)) (pw_and1 (pt_not (pt_val (pe_call0 G_law_greatest (hr.mono (by decide)) rfl D_law_greatest.g D_law_greatest.F.kp D_law_greatest.b .nil pass0)))))) (pss_one (ps_ret pe_bl)) pss_nil)
      (pss_one (ps_ret (pe_and (pe_call G_law_too_large (hr.mono (by decide)) rfl D_law_too_large.g D_law_too_large.F.kp D_law_too_large.b .nil pass0 (pa_cons (pe_lst pa_nil) pa_nil)) (pe_one (pe_call G_law_too_large (hr.mono (by decide)) rfl D_law_too_large.g D_law_too_large.F.kp D_law_too_large.b .nil pass0 (pa_cons (pe_lc (own := [("_law_k", 8)]) (g := (gName 8)) (tt := tYes) rfl sc_law.nd (pi_range1 rfl T.b_range (pa_cons pe_int pa_nil)) (blkOk_by (N := ["_law_script", "_law_shape", "_law_menu_here", "_law_size", "_law_rows_here", "_law_bad", "_law_first", "_law_j", "_law_k"]) (sc := defScope s_law) (by decide +kernel)) (fun _ _ _ _ _ => (pg_name (i := 8) sc_law.nd rfl (Or.inl rfl))) (fun _ _ _ _ _ => pts_nil) (fun _ _ _ _ _ => (pe_lst (pa_cons pe_non pa_nil)))) pa_nil))))))))))))))))), ?_⟩
    try simp (maxSteps := 1000000) only [tSeq, tTest, tOp, tUn, tCB, tCons, tNil, tVar, tC, rI0, rI, rU, rEq, rNe, tRet, tRetN, tAsg, gName, gSub, tBM, tBM0, tNext, tB, tNot, tAnd, tOr, tIf, tCall, tDrop, tBreak, tCont, L2.start, tDGet, sDPut, tTup, tLst, tDNewK, tRevL, rCat, rAppend, rPop, rSetL, tAndV, tOrV, tNotV, tSl, tPart, tNoPart, tM1, gTup, gCons, gNil, cxK, cxnK, List.map_cons, List.map_nil, List.length_cons, List.length_nil, List.replicate, List.cons_append, List.nil_append, List.append_nil, List.set_cons_zero, List.set_cons_succ, List.getElem?_cons_zero, List.getElem?_cons_succ, Option.some.injEq, V.ref.injEq, V.int.injEq, V.str.injEq, V.bl.injEq, V.ty.injEq, exists_eq_left', exists_eq_left, exists_and_left, List.cons.injEq, and_true, true_and, sc_ii, sc_ss, sc_bb, sc_ni, sc_in, sc_is, sc_si, sc_nn, decide_true, decide_false, reduceCtorEq, Bool.false_eq_true, if_true, if_false, ite_true, ite_false, exists_const, eq_self, false_and, and_false, or_false, false_or, exists_false, Evl.rLenS, rSum, wipe, tYes, exists_eq, exists_eq', rIxL, rIxT, rIxS, exists_and_right, gt_iff_lt, not_true_eq_false, not_false_eq_true, Bool.not_true, Bool.not_false, decide_eq_true_eq, Nat.reduceSub, Nat.reduceAdd, List.append_assoc, tChain, tDIn, tDNotIn, sDDel, tAug, ipI, rInt1_int, rInt1_bl]
    refine ⟨a, 0, ns, rfl, hS, by decide, fun r0 H1 r00 k1 => ⟨by rw [sizeLine_eq]; decide, fun p np => ?_⟩⟩
    have kp := (Kp.new np : Kp [] H1 (upd H1 p (.lst [.int 8, .int 7, .int 3, .int 70, .int 6, .int 4])))
    refine ⟨r0, p, [8, 7, 3, 70, 6, 4], rfl, r00, sq_l upd_same, by decide, fun x hx => ?_, fun dr sh H2 n2 hsh dlen hdr k2 => ?_⟩
    · simp at hx
      rcases hx with rfl | rfl | rfl | rfl | rfl | rfl <;> decide
    obtain ⟨z0, z1, z2, z3, z4, z5, rfl⟩ : ∃ z0 z1 z2 z3 z4 z5, dr = [z0, z1, z2, z3, z4, z5] := by
      match dr, dlen with
      | [z0, z1, z2, z3, z4, z5], _ => exact ⟨z0, z1, z2, z3, z4, z5, rfl⟩
    have b1 := hdr 1 z1 7 rfl rfl
    have b2 := hdr 2 z2 3 rfl rfl
    have b3 := hdr 3 z3 70 rfl rfl
    have b4 := hdr 4 z4 6 rfl rfl
    have k02 := (k1.trans kp).trans k2
    refine ⟨a, 1, ns, rfl, hS.kp k02, by decide, fun r1 H3 r10 k3 => ⟨by rw [sizeLine_eq]; decide, fun p2 np2 => ?_⟩⟩
    have kp2 := (Kp.new np2 : Kp [] H3 (upd H3 p2 (.lst [.int 3, .int 3, .int 3, .int 4, .int 5, .int 6, .int 8])))
    have hp2 : (upd H3 p2 (.lst [.int 3, .int 3, .int 3, .int 4, .int 5, .int 6, .int 8])) p2 = some (.lst (manyL.map V.int)) := upd_same
    generalize upd H3 p2 (.lst [.int 3, .int 3, .int 3, .int 4, .int 5, .int 6, .int 8]) = H4 at kp2 hp2 ⊢
    obtain ⟨n1, en1⟩ := Int.eq_ofNat_of_zero_le b1.1
    obtain ⟨m, m3, m8, em⟩ := many_at n1 (by omega)
    have hsh4 := (k3.trans kp2) _ _ not0 hsh
    refine ⟨sh, rfl, _, sq_l hsh4, _, rfl, _, z1, rfl, sq_l hp2, _, atI_of b1.1 (by rw [List.getElem?_map, show z1.toNat = n1 by omega, em]; rfl), ?_⟩
    refine ⟨r1, m, rfl, r10, m3, m8, fun mn us ds H5 nm hmn hus hm k5 => ?_⟩
    have k05 := ((k02.trans k3).trans kp2).trans k5
    have hsh5 := k5 _ _ not0 hsh4
    refine ⟨sh, rfl, _, sq_l hsh5, _, rfl, z4, rfl, ?_⟩
    refine ifs_both (fun σ G => ∃ n : Nat, σ = [some (.ref a), some (.ref sh), some (.ref mn), some (.int (n : Nat)), none, none, none, none, none] ∧ 1 ≤ n ∧ n ≤ 100 ∧ G = H5) (fun Dn hn => ?_) ?_
    · try simp (maxSteps := 1000000) only [tSeq, tIfS, tTest, tOp, tUn, tCB, tCons, tNil, tVar, tC, rI0, rI, rU, rEq, rNe, tRet, tRetN, tAsg, gName, gSub, tBM, tBM0, tNext, tB, tNot, tAnd, tOr, tIf, tCall, tDrop, tBreak, tCont, L2.start, tDGet, sDPut, tTup, tLst, tDNewK, tRevL, rCat, rAppend, rPop, rSetL, tAndV, tOrV, tNotV, tSl, tPart, tNoPart, tM1, gTup, gCons, gNil, cxK, cxnK, List.map_cons, List.map_nil, List.length_cons, List.length_nil, List.replicate, List.cons_append, List.nil_append, List.append_nil, List.set_cons_zero, List.set_cons_succ, List.getElem?_cons_zero, List.getElem?_cons_succ, Option.some.injEq, V.ref.injEq, V.int.injEq, V.str.injEq, V.bl.injEq, V.ty.injEq, exists_eq_left', exists_eq_left, exists_and_left, List.cons.injEq, and_true, true_and, sc_ii, sc_ss, sc_bb, sc_ni, sc_in, sc_is, sc_si, sc_nn, decide_true, decide_false, reduceCtorEq, Bool.false_eq_true, if_true, if_false, ite_true, ite_false, exists_const, eq_self, false_and, and_false, or_false, false_or, exists_false, Evl.rLenS, rSum, wipe, tYes, exists_eq, exists_eq', rIxL, rIxT, rIxS, exists_and_right, gt_iff_lt, not_true_eq_false, not_false_eq_true, Bool.not_true, Bool.not_false, decide_eq_true_eq, Nat.reduceSub, Nat.reduceAdd, List.append_assoc, tChain, tDIn, tDNotIn, sDDel, tAug, ipI, rInt1_int, rInt1_bl]
      obtain ⟨n4, rfl⟩ := Int.eq_ofNat_of_zero_le b4.1
      obtain ⟨n3, rfl⟩ := Int.eq_ofNat_of_zero_le b3.1
      refine ⟨_, sq_l hsh5, _, rfl, rfl, ite2 (fun h1 => ?_) (fun h1 => ?_)⟩
      · refine ⟨_, sq_l hsh5, _, rfl, _, rfl, hn _ _ ⟨1 + n3, by rw [Int.natCast_add]; rfl, by omega, by omega, rfl⟩⟩
      · exact hn _ _ ⟨1 + n4, by rw [Int.natCast_add]; rfl, by omega, by omega, rfl⟩
    rintro σ' G ⟨n, rfl, l1, l2, rfl⟩
    try simp (maxSteps := 1000000) only [tSeq, tTest, tOp, tUn, tCB, tCons, tNil, tVar, tC, rI0, rI, rU, rEq, rNe, tRet, tRetN, tAsg, gName, gSub, tBM, tBM0, tNext, tB, tNot, tAnd, tOr, tIf, tCall, tDrop, tBreak, tCont, L2.start, tDGet, sDPut, tTup, tLst, tDNewK, tRevL, rCat, rAppend, rPop, rSetL, tAndV, tOrV, tNotV, tSl, tPart, tNoPart, tM1, gTup, gCons, gNil, cxK, cxnK, List.map_cons, List.map_nil, List.length_cons, List.length_nil, List.replicate, List.cons_append, List.nil_append, List.append_nil, List.set_cons_zero, List.set_cons_succ, List.getElem?_cons_zero, List.getElem?_cons_succ, Option.some.injEq, V.ref.injEq, V.int.injEq, V.str.injEq, V.bl.injEq, V.ty.injEq, exists_eq_left', exists_eq_left, exists_and_left, List.cons.injEq, and_true, true_and, sc_ii, sc_ss, sc_bb, sc_ni, sc_in, sc_is, sc_si, sc_nn, decide_true, decide_false, reduceCtorEq, Bool.false_eq_true, if_true, if_false, ite_true, ite_false, exists_const, eq_self, false_and, and_false, or_false, false_or, exists_false, Evl.rLenS, rSum, wipe, tYes, exists_eq, exists_eq', rIxL, rIxT, rIxS, exists_and_right, gt_iff_lt, not_true_eq_false, not_false_eq_true, Bool.not_true, Bool.not_false, decide_eq_true_eq, Nat.reduceSub, Nat.reduceAdd, List.append_assoc, tChain, tDIn, tDNotIn, sDDel, tAug, ipI, rInt1_int, rInt1_bl]
    refine ⟨_, sq_l hsh5, _, rfl, rfl, ?_⟩
    refine ⟨a, mn, _, n, ns, us, ds, rfl, hS.kp k05, l1, l2, hmn, hus, hm, fun rw_ rs rows H6 nrw hrw hrs lrows hg k6 => ?_⟩
    subst lrows
    have hrsA : Rw (RwAt H6) rs rows := hrs.mono fun _ _ z => z.rw_
    have hsh6 := k6 _ _ not0 hsh5
    try simp (maxSteps := 1000000) only [tSeq, tIfS, tTest, tOp, tUn, tCB, tCons, tNil, tVar, tC, rI0, rI, rU, rEq, rNe, tRet, tRetN, tAsg, gName, gSub, tBM, tBM0, tNext, tB, tNot, tAnd, tOr, tIf, tCall, tDrop, tBreak, tCont, L2.start, tDGet, sDPut, tTup, tLst, tDNewK, tRevL, rCat, rAppend, rPop, rSetL, tAndV, tOrV, tNotV, tSl, tPart, tNoPart, tM1, gTup, gCons, gNil, cxK, cxnK, List.map_cons, List.map_nil, List.length_cons, List.length_nil, List.replicate, List.cons_append, List.nil_append, List.append_nil, List.set_cons_zero, List.set_cons_succ, List.getElem?_cons_zero, List.getElem?_cons_succ, Option.some.injEq, V.ref.injEq, V.int.injEq, V.str.injEq, V.bl.injEq, V.ty.injEq, exists_eq_left', exists_eq_left, exists_and_left, List.cons.injEq, and_true, true_and, sc_ii, sc_ss, sc_bb, sc_ni, sc_in, sc_is, sc_si, sc_nn, decide_true, decide_false, reduceCtorEq, Bool.false_eq_true, if_true, if_false, ite_true, ite_false, exists_const, eq_self, false_and, and_false, or_false, false_or, exists_false, Evl.rLenS, rSum, wipe, tYes, exists_eq, exists_eq', rIxL, rIxT, rIxS, exists_and_right, gt_iff_lt, not_true_eq_false, not_false_eq_true, Bool.not_true, Bool.not_false, decide_eq_true_eq, Nat.reduceSub, Nat.reduceAdd, List.append_assoc, tChain, tDIn, tDNotIn, sDDel, tAug, ipI, rInt1_int, rInt1_bl]
    refine ⟨rw_, rs, rows, rfl, hrw, hrsA, l1, l2, fun r hr2 => (hg r hr2).1, fun H7 k7 => ⟨true, rfl, ?_⟩⟩
    rw [if_neg (by decide)]
    have hrw7 := k7 _ _ not0 hrw
    have hsh7 := k7 _ _ not0 hsh6
    have k67 := k6.trans k7
    have k07 := k05.trans k67
    have hrs7 : Rw (RwAt H7) rs rows := hrsA.mono fun _ _ z => z.kd k7.kd
    have hmn7 := k67 _ _ not0 hmn
    have hus7 : Rw (TDv H7) us ds := hus.mono fun _ _ z => z.tp k67.tps
    have hS7 := hS.kp k07
    refine ⟨rw_, rs, rows, rfl, hrw7, hrs7, l2, fun ld rs' H8 nld hld hrs' fr k8 => ?_⟩
    obtain ⟨m2, rfl⟩ := Int.eq_ofNat_of_zero_le b2.1
    have hm2 : m2 < 3 := by have := b2.2; omega
    refine forN m2 (by omega) (fun j σ G => ∃ (f : Nat) (rsb : List V) (rowsD : List (List PyData)) (c7 : Option V), σ = [some (.ref a), some (.ref sh), some (.ref mn), some (.int (rows.length : Nat)), some (.ref rw_), some (.ref ld), some (.int (f : Nat)), c7, none] ∧ G ld = some (.lst rsb) ∧ Rw (RwD (hWo ld G)) rsb rowsD ∧ rowsD.length = rows.length ∧
      (∀ (i : Nat) ms dd, rows[i]? = some ms → rowsD[i]? = some dd → SpR rows.length ms dd ∧ szAll dd = true ∧ dd.length ≤ 60 + 2 * j) ∧ f ≤ rows.length ∧ (∀ i dd, i < f → rowsD[i]? = some dd → OkRw rows.length dd) ∧ (f < rows.length → ∃ dd, rowsD[f]? = some dd ∧ BadRw rows.length dd) ∧ (0 < j → f < rows.length) ∧ Kp [ld] H8 G) (fun R r => ?_) ⟨rows.length, rs', rows.map (·.map mvD), none, rfl, hld, ?_, by rw [List.length_map], fun i ms dd e e2 => ?_, Nat.le_refl _, fun i dd hi e2 => ?_, fun z => absurd z (Nat.lt_irrefl _), fun z => absurd z (by decide), Kp.refl _ _⟩ (fun j σ G hj h => ?_) fun σ G h => ?_
    · try simp (maxSteps := 1000000) only [tSeq, tIfS, tTest, tOp, tUn, tCB, tCons, tNil, tVar, tC, rI0, rI, rU, rEq, rNe, tRet, tRetN, tAsg, gName, gSub, tBM, tBM0, tNext, tB, tNot, tAnd, tOr, tIf, tCall, tDrop, tBreak, tCont, L2.start, tDGet, sDPut, tTup, tLst, tDNewK, tRevL, rCat, rAppend, rPop, rSetL, tAndV, tOrV, tNotV, tSl, tPart, tNoPart, tM1, gTup, gCons, gNil, cxK, cxnK, List.map_cons, List.map_nil, List.length_cons, List.length_nil, List.replicate, List.cons_append, List.nil_append, List.append_nil, List.set_cons_zero, List.set_cons_succ, List.getElem?_cons_zero, List.getElem?_cons_succ, Option.some.injEq, V.ref.injEq, V.int.injEq, V.str.injEq, V.bl.injEq, V.ty.injEq, exists_eq_left', exists_eq_left, exists_and_left, List.cons.injEq, and_true, true_and, sc_ii, sc_ss, sc_bb, sc_ni, sc_in, sc_is, sc_si, sc_nn, decide_true, decide_false, reduceCtorEq, Bool.false_eq_true, if_true, if_false, ite_true, ite_false, exists_const, eq_self, false_and, and_false, or_false, false_or, exists_false, Evl.rLenS, rSum, wipe, tYes, exists_eq, exists_eq', rIxL, rIxT, rIxS, exists_and_right, gt_iff_lt, not_true_eq_false, not_false_eq_true, Bool.not_true, Bool.not_false, decide_eq_true_eq, Nat.reduceSub, Nat.reduceAdd, List.append_assoc, tChain, tDIn, tDNotIn, sDDel, tAug, ipI, rInt1_int, rInt1_bl]
      exact ⟨_, sq_l (k8 _ _ not0 hsh7), _, rfl, r⟩
    · refine ⟨by rw [hrs'.len, List.length_map], fun {i u} e => ?_⟩
      obtain ⟨ms, es, hms⟩ := hrs'.get e
      exact ⟨ms.map mvD, by rw [List.getElem?_map, es]; rfl, (RwN.wo hld hms).dq⟩
    · rw [List.getElem?_map, e] at e2
      cases e2
      have g := hg ms (List.mem_of_getElem? e)
      exact ⟨.inl rfl, szMs g.1.deed, by rw [List.length_map]; exact g.2⟩
    · rw [List.getElem?_map] at e2
      obtain ⟨ms, es, rfl⟩ := Option.map_eq_some_iff.mp e2
      exact ⟨ms, rfl, (hg ms (List.mem_of_getElem? es)).1⟩
    · obtain ⟨f, rsb, rowsD, c7, rfl, hG, hrsb, lD, hD, hf, hok, hbad, hpos, kG⟩ := h
      have k7G := Kp.own k8 kG nld
      try simp (maxSteps := 1000000) only [tSeq, tIfS, tTest, tOp, tUn, tCB, tCons, tNil, tVar, tC, rI0, rI, rU, rEq, rNe, tRet, tRetN, tAsg, gName, gSub, tBM, tBM0, tNext, tB, tNot, tAnd, tOr, tIf, tCall, tDrop, tBreak, tCont, L2.start, tDGet, sDPut, tTup, tLst, tDNewK, tRevL, rCat, rAppend, rPop, rSetL, tAndV, tOrV, tNotV, tSl, tPart, tNoPart, tM1, gTup, gCons, gNil, cxK, cxnK, List.map_cons, List.map_nil, List.length_cons, List.length_nil, List.replicate, List.cons_append, List.nil_append, List.append_nil, List.set_cons_zero, List.set_cons_succ, List.getElem?_cons_zero, List.getElem?_cons_succ, Option.some.injEq, V.ref.injEq, V.int.injEq, V.str.injEq, V.bl.injEq, V.ty.injEq, exists_eq_left', exists_eq_left, exists_and_left, List.cons.injEq, and_true, true_and, sc_ii, sc_ss, sc_bb, sc_ni, sc_in, sc_is, sc_si, sc_nn, decide_true, decide_false, reduceCtorEq, Bool.false_eq_true, if_true, if_false, ite_true, ite_false, exists_const, eq_self, false_and, and_false, or_false, false_or, exists_false, Evl.rLenS, rSum, wipe, tYes, exists_eq, exists_eq', rIxL, rIxT, rIxS, exists_and_right, gt_iff_lt, not_true_eq_false, not_false_eq_true, Bool.not_true, Bool.not_false, decide_eq_true_eq, Nat.reduceSub, Nat.reduceAdd, List.append_assoc, tChain, tDIn, tDNotIn, sDDel, tAug, ipI, rInt1_int, rInt1_bl]
      have hrw7' : rw_ ≠ ld := fun z => by rw [z, nld] at hrw7; cases hrw7
      rw [show (2 : Int) + ((j : Nat) : Int) = ((2 + j : Nat) : Int) by omega]
      refine ⟨a, 2 + j, ns, rfl, hS7.kp k7G, by omega, fun r2 G1 r20 kc => ?_⟩
      have k7G1 := k7G.trans kc
      have kw : Kp [] (hWo ld G) (hWo ld G1) := (kc.of0 (T := [ld])).wo
      refine ⟨ld, rw_, mn, r2, rsb, rs, us, rowsD, rows, ds, 2 * j, rfl, r20, kc _ _ not0 hG, hrsb.mono fun _ _ z => z.kp kw, k7G1 _ _ not0 hrw7, hrw7', hrs7.mono fun _ _ z => z.kd k7G1.kd, l1, l2, hg, k7G1 _ _ not0 hmn7, hus7.mono fun _ _ z => z.tp k7G1.tps, hm, lD, hD, by omega, fun i rs2 dd G2 hi hG2 hrs2 hbd hsz hdl k2 => ?_⟩
      have hiD : i < rowsD.length := by omega
      have kG2 : Kp [ld] H8 G2 := (kG.trans kc.of0).trans k2
      have all : ∀ (i' : Nat) ms dd', rows[i']? = some ms → (rowsD.set i dd)[i']? = some dd' → SpR rows.length ms dd' ∧ szAll dd' = true ∧ dd'.length ≤ 60 + 2 * (j + 1) := fun i' ms dd' e e2 => by
        by_cases z : i = i'
        · subst z
          rw [List.getElem?_set_self hiD] at e2
          cases e2
          exact ⟨.inr hbd, hsz, by omega⟩
        · rw [List.getElem?_set_ne z] at e2
          obtain ⟨x1, x2, x3⟩ := hD i' ms dd' e e2
          exact ⟨x1, x2, by omega⟩
      by_cases hif : i < f
      · refine ⟨_, _, ⟨rfl, rfl⟩, i, by rw [if_pos (by omega)], rs2, hG2, rowsD.set i dd, hrs2, by rw [List.length_set, lD], all, by omega, fun i' dd' hi' e2 => ?_, fun _ => ⟨dd, by rw [List.getElem?_set_self hiD], hbd⟩, fun _ => hi, kG2⟩
        rw [List.getElem?_set_ne (by omega)] at e2
        exact hok i' dd' (by omega) e2
      · refine ⟨_, _, ⟨rfl, rfl⟩, f, by rw [if_neg (by omega)], rs2, hG2, rowsD.set i dd, hrs2, by rw [List.length_set, lD], all, hf, fun i' dd' hi' e2 => ?_, fun hfn => ?_, fun _ => by omega, kG2⟩
        · rw [List.getElem?_set_ne (by omega)] at e2
          exact hok i' dd' hi' e2
        · by_cases z : i = f
          · subst z
            exact ⟨dd, by rw [List.getElem?_set_self hiD], hbd⟩
          · obtain ⟨d2, e2, hb⟩ := hbad hfn
            exact ⟨d2, by rw [List.getElem?_set_ne z]; exact e2, hb⟩
    · obtain ⟨f, rsb, rowsD, c7, rfl, hG, hrsb, lD, hD, hf, hok, hbad, hpos, kG⟩ := h
      have k7G := Kp.own k8 kG nld
      have hshG := k7G _ _ not0 hsh7
      try simp (maxSteps := 1000000) only [tSeq, tTest, tOp, tUn, tCB, tCons, tNil, tVar, tC, rI0, rI, rU, rEq, rNe, tRet, tRetN, tAsg, gName, gSub, tBM, tBM0, tNext, tB, tNot, tAnd, tOr, tIf, tCall, tDrop, tBreak, tCont, L2.start, tDGet, sDPut, tTup, tLst, tDNewK, tRevL, rCat, rAppend, rPop, rSetL, tAndV, tOrV, tNotV, tSl, tPart, tNoPart, tM1, gTup, gCons, gNil, cxK, cxnK, List.map_cons, List.map_nil, List.length_cons, List.length_nil, List.replicate, List.cons_append, List.nil_append, List.append_nil, List.set_cons_zero, List.set_cons_succ, List.getElem?_cons_zero, List.getElem?_cons_succ, Option.some.injEq, V.ref.injEq, V.int.injEq, V.str.injEq, V.bl.injEq, V.ty.injEq, exists_eq_left', exists_eq_left, exists_and_left, List.cons.injEq, and_true, true_and, sc_ii, sc_ss, sc_bb, sc_ni, sc_in, sc_is, sc_si, sc_nn, decide_true, decide_false, reduceCtorEq, Bool.false_eq_true, if_true, if_false, ite_true, ite_false, exists_const, eq_self, false_and, and_false, or_false, false_or, exists_false, Evl.rLenS, rSum, wipe, tYes, exists_eq, exists_eq', rIxL, rIxT, rIxS, exists_and_right, gt_iff_lt, not_true_eq_false, not_false_eq_true, Bool.not_true, Bool.not_false, decide_eq_true_eq, Nat.reduceSub, Nat.reduceAdd, List.append_assoc, tChain, tDIn, tDNotIn, sDDel, tAug, ipI, rInt1_int, rInt1_bl]
      refine ifs_both (fun σ' G' => σ' = [some (.ref a), some (.ref sh), some (.ref mn), some (.int (rows.length : Nat)), some (.ref rw_), some (.ref ld), some (.int (f : Nat)), c7, none] ∧ Kp [] G G') (fun Dn hn => ?_) ?_
      · try simp (maxSteps := 1000000) only [tSeq, tIfS, tTest, tOp, tUn, tCB, tCons, tNil, tVar, tC, rI0, rI, rU, rEq, rNe, tRet, tRetN, tAsg, gName, gSub, tBM, tBM0, tNext, tB, tNot, tAnd, tOr, tIf, tCall, tDrop, tBreak, tCont, L2.start, tDGet, sDPut, tTup, tLst, tDNewK, tRevL, rCat, rAppend, rPop, rSetL, tAndV, tOrV, tNotV, tSl, tPart, tNoPart, tM1, gTup, gCons, gNil, cxK, cxnK, List.map_cons, List.map_nil, List.length_cons, List.length_nil, List.replicate, List.cons_append, List.nil_append, List.append_nil, List.set_cons_zero, List.set_cons_succ, List.getElem?_cons_zero, List.getElem?_cons_succ, Option.some.injEq, V.ref.injEq, V.int.injEq, V.str.injEq, V.bl.injEq, V.ty.injEq, exists_eq_left', exists_eq_left, exists_and_left, List.cons.injEq, and_true, true_and, sc_ii, sc_ss, sc_bb, sc_ni, sc_in, sc_is, sc_si, sc_nn, decide_true, decide_false, reduceCtorEq, Bool.false_eq_true, if_true, if_false, ite_true, ite_false, exists_const, eq_self, false_and, and_false, or_false, false_or, exists_false, Evl.rLenS, rSum, wipe, tYes, exists_eq, exists_eq', rIxL, rIxT, rIxS, exists_and_right, gt_iff_lt, not_true_eq_false, not_false_eq_true, Bool.not_true, Bool.not_false, decide_eq_true_eq, Nat.reduceSub, Nat.reduceAdd, List.append_assoc, tChain, tDIn, tDNotIn, sDDel, tAug, ipI, rInt1_int, rInt1_bl]
        refine ⟨_, sq_l hshG, _, rfl, _, rfl, ite2 (fun h1 => ?_) (fun h1 => hn _ _ ⟨rfl, Kp.refl _ _⟩)⟩
        have hfn := hpos (by omega)
        refine ⟨ld, f, rsb, rowsD, rfl, hG, hrsb.mono fun _ _ z => z.kp er_kp, by omega, by omega, fun dd hdd => ?_, by rw [lD]; exact hbad hfn, by rw [lD]; exact fun i dd hi e => hok i dd hi e, fun G2 k2 => ⟨true, rfl, ?_⟩⟩
        · obtain ⟨i, ei⟩ := List.getElem?_of_mem hdd
          have li := (List.getElem?_eq_some_iff.mp ei).1
          obtain ⟨_, x2, x3⟩ := hD i (rows[i]'(by omega)) dd (List.getElem?_eq_getElem _) ei
          exact ⟨x2, by omega⟩
        · rw [if_neg (by decide)]
          exact hn _ _ ⟨rfl, k2⟩
      rintro σ' G2 ⟨rfl, k2⟩
      have hshG2 := k2 _ _ not0 hshG
      try simp (maxSteps := 1000000) only [tSeq, tTest, tOp, tUn, tCB, tCons, tNil, tVar, tC, rI0, rI, rU, rEq, rNe, tRet, tRetN, tAsg, gName, gSub, tBM, tBM0, tNext, tB, tNot, tAnd, tOr, tIf, tCall, tDrop, tBreak, tCont, L2.start, tDGet, sDPut, tTup, tLst, tDNewK, tRevL, rCat, rAppend, rPop, rSetL, tAndV, tOrV, tNotV, tSl, tPart, tNoPart, tM1, gTup, gCons, gNil, cxK, cxnK, List.map_cons, List.map_nil, List.length_cons, List.length_nil, List.replicate, List.cons_append, List.nil_append, List.append_nil, List.set_cons_zero, List.set_cons_succ, List.getElem?_cons_zero, List.getElem?_cons_succ, Option.some.injEq, V.ref.injEq, V.int.injEq, V.str.injEq, V.bl.injEq, V.ty.injEq, exists_eq_left', exists_eq_left, exists_and_left, List.cons.injEq, and_true, true_and, sc_ii, sc_ss, sc_bb, sc_ni, sc_in, sc_is, sc_si, sc_nn, decide_true, decide_false, reduceCtorEq, Bool.false_eq_true, if_true, if_false, ite_true, ite_false, exists_const, eq_self, false_and, and_false, or_false, false_or, exists_false, Evl.rLenS, rSum, wipe, tYes, exists_eq, exists_eq', rIxL, rIxT, rIxS, exists_and_right, gt_iff_lt, not_true_eq_false, not_false_eq_true, Bool.not_true, Bool.not_false, decide_eq_true_eq, Nat.reduceSub, Nat.reduceAdd, List.append_assoc, tChain, tDIn, tDNotIn, sDDel, tAug, ipI, rInt1_int, rInt1_bl]
      refine ifs_both (fun σ' G' => σ' = [some (.ref a), some (.ref sh), some (.ref mn), some (.int (rows.length : Nat)), some (.ref rw_), some (.ref ld), some (.int (f : Nat)), c7, none]) (fun Dn hn => ?_) ?_
      · try simp (maxSteps := 1000000) only [tSeq, tIfS, tTest, tOp, tUn, tCB, tCons, tNil, tVar, tC, rI0, rI, rU, rEq, rNe, tRet, tRetN, tAsg, gName, gSub, tBM, tBM0, tNext, tB, tNot, tAnd, tOr, tIf, tCall, tDrop, tBreak, tCont, L2.start, tDGet, sDPut, tTup, tLst, tDNewK, tRevL, rCat, rAppend, rPop, rSetL, tAndV, tOrV, tNotV, tSl, tPart, tNoPart, tM1, gTup, gCons, gNil, cxK, cxnK, List.map_cons, List.map_nil, List.length_cons, List.length_nil, List.replicate, List.cons_append, List.nil_append, List.append_nil, List.set_cons_zero, List.set_cons_succ, List.getElem?_cons_zero, List.getElem?_cons_succ, Option.some.injEq, V.ref.injEq, V.int.injEq, V.str.injEq, V.bl.injEq, V.ty.injEq, exists_eq_left', exists_eq_left, exists_and_left, List.cons.injEq, and_true, true_and, sc_ii, sc_ss, sc_bb, sc_ni, sc_in, sc_is, sc_si, sc_nn, decide_true, decide_false, reduceCtorEq, Bool.false_eq_true, if_true, if_false, ite_true, ite_false, exists_const, eq_self, false_and, and_false, or_false, false_or, exists_false, Evl.rLenS, rSum, wipe, tYes, exists_eq, exists_eq', rIxL, rIxT, rIxS, exists_and_right, gt_iff_lt, not_true_eq_false, not_false_eq_true, Bool.not_true, Bool.not_false, decide_eq_true_eq, Nat.reduceSub, Nat.reduceAdd, List.append_assoc, tChain, tDIn, tDNotIn, sDDel, tAug, ipI, rInt1_int, rInt1_bl]
        refine ⟨_, sq_l hshG2, _, rfl, rfl, ite2 (fun h1 => ?_) (fun h1 => hn _ _ rfl)⟩
        exact ⟨rfl, fun H' _ => ⟨true, rfl, by rw [if_neg (by decide)]; exact hn _ _ rfl⟩⟩
      rintro σ' G3 rfl
      try simp (maxSteps := 1000000) only [tSeq, tIfS, tTest, tOp, tUn, tCB, tCons, tNil, tVar, tC, rI0, rI, rU, rEq, rNe, tRet, tRetN, tAsg, gName, gSub, tBM, tBM0, tNext, tB, tNot, tAnd, tOr, tIf, tCall, tDrop, tBreak, tCont, L2.start, tDGet, sDPut, tTup, tLst, tDNewK, tRevL, rCat, rAppend, rPop, rSetL, tAndV, tOrV, tNotV, tSl, tPart, tNoPart, tM1, gTup, gCons, gNil, cxK, cxnK, List.map_cons, List.map_nil, List.length_cons, List.length_nil, List.replicate, List.cons_append, List.nil_append, List.append_nil, List.set_cons_zero, List.set_cons_succ, List.getElem?_cons_zero, List.getElem?_cons_succ, Option.some.injEq, V.ref.injEq, V.int.injEq, V.str.injEq, V.bl.injEq, V.ty.injEq, exists_eq_left', exists_eq_left, exists_and_left, List.cons.injEq, and_true, true_and, sc_ii, sc_ss, sc_bb, sc_ni, sc_in, sc_is, sc_si, sc_nn, decide_true, decide_false, reduceCtorEq, Bool.false_eq_true, if_true, if_false, ite_true, ite_false, exists_const, eq_self, false_and, and_false, or_false, false_or, exists_false, Evl.rLenS, rSum, wipe, tYes, exists_eq, exists_eq', rIxL, rIxT, rIxS, exists_and_right, gt_iff_lt, not_true_eq_false, not_false_eq_true, Bool.not_true, Bool.not_false, decide_eq_true_eq, Nat.reduceSub, Nat.reduceAdd, List.append_assoc, tChain, tDIn, tDNotIn, sDDel, tAug, ipI, rInt1_int, rInt1_bl]
      refine ⟨Nat.zero_le _, fun p np => ⟨p, [], [], rfl, upd_same, .nil, by decide, by decide, fun H9 _ => ⟨true, rfl, ?_⟩⟩⟩
      rw [if_pos rfl]
      refine lcRgN 4001 (by decide) (fun o i H' => ∃ ws, H' o = some (.lst ws) ∧ Rw (RwD (hWo o H')) ws (List.replicate i [PyData.none]) ∧ Kp [] H9 H') (fun R r => r) (fun o no => ⟨[], upd_same, .nil, Kp.new no⟩) (fun o i H' no hi ⟨ws, ho, hw, k⟩ => ?_) fun o H1 no ⟨ws, ho, hw, k1⟩ => ?_
      · refine ⟨by simp [wipe], ?_⟩
        simp only [tYes, if_true]
        try simp (maxSteps := 1000000) only [tSeq, tIfS, tTest, tOp, tUn, tCB, tCons, tNil, tVar, tC, rI0, rI, rU, rEq, rNe, tRet, tRetN, tAsg, gName, gSub, tBM, tBM0, tNext, tB, tNot, tAnd, tOr, tIf, tCall, tDrop, tBreak, tCont, L2.start, tDGet, sDPut, tTup, tLst, tDNewK, tRevL, rCat, rAppend, rPop, rSetL, tAndV, tOrV, tNotV, tSl, tPart, tNoPart, tM1, gTup, gCons, gNil, cxK, cxnK, List.map_cons, List.map_nil, List.length_cons, List.length_nil, List.replicate, List.cons_append, List.nil_append, List.append_nil, List.set_cons_zero, List.set_cons_succ, List.getElem?_cons_zero, List.getElem?_cons_succ, Option.some.injEq, V.ref.injEq, V.int.injEq, V.str.injEq, V.bl.injEq, V.ty.injEq, exists_eq_left', exists_eq_left, exists_and_left, List.cons.injEq, and_true, true_and, sc_ii, sc_ss, sc_bb, sc_ni, sc_in, sc_is, sc_si, sc_nn, decide_true, decide_false, reduceCtorEq, Bool.false_eq_true, if_true, if_false, ite_true, ite_false, exists_const, eq_self, false_and, and_false, or_false, false_or, exists_false, Evl.rLenS, rSum, wipe, tYes, exists_eq, exists_eq', rIxL, rIxT, rIxS, exists_and_right, gt_iff_lt, not_true_eq_false, not_false_eq_true, Bool.not_true, Bool.not_false, decide_eq_true_eq, Nat.reduceSub, Nat.reduceAdd, List.append_assoc, tChain, tDIn, tDNotIn, sDDel, tAug, ipI, rInt1_int, rInt1_bl]
        refine ⟨by rw [sizeLine_eq]; decide, fun p np => ?_⟩
        have kp := (Kp.new np : Kp [] H' (upd H' p (.lst [.non])))
        have hp : (upd H' p (.lst [.non])) p = some (.lst [.non]) := upd_same
        have po : p ≠ o := fun z => by rw [z, ho] at np; cases np
        generalize upd H' p (.lst [.non]) = G9 at kp hp
        have ho2 := kp _ _ not0 ho
        refine ⟨ws, ho2, by rw [hw.len, List.length_replicate, sizeLine_eq]; omega, _, upd_same, ?_, (k.trans kp).wr no⟩
        rw [hWo_upd]
        show Rw _ _ (List.replicate (i + 1) [PyData.none])
        rw [List.replicate_succ']
        exact (hw.mono fun u g h => h.kp (kp.of0 (T := [o])).wo).snoc ⟨p, _, rfl, by rw [er_ne po]; exact hp, .cons .non .nil⟩
      · exact ⟨o, ws, _, rfl, ho, hw.mono fun _ _ z => z.kp er_kp, by rw [List.length_replicate]; decide, by rw [List.length_replicate]; decide, fun H' _ => q H'⟩
end
end My

set_option Elab.async false
set_option linter.all false
set_option maxRecDepth 100000
set_option maxHeartbeats 8000000
namespace My
open PySem L2 NdefX
theorem exm_sub {K : PySem.W.Frag} {S D : Addr} {b : Bool} (h1 : PySem.W.subIn K (.ref D) (.type "BaseException") = some true) (h2 : PySem.W.isClsIn K D = true) (h3 : PySem.W.typeIn K (.ref D) = some (.type "type"))
    (h4 : PySem.W.subIn K (.ref S) (.ref D) = some b) : PySem.W.exmOne K (.ref S) (.ref D) = some b := by
  have i2 : (PySem.W.clsIn K D).isSome = true := h2
  unfold PySem.W.exmOne
  simp [PySem.W.kitCls, h1, i2, h3, h4]
theorem kit_self {K : PySem.W.Frag} {S : Addr} : PySem.W.kitOne K (.ref S) (.ref S) = some true := by
  unfold PySem.W.kitOne
  rw [if_pos (beq_self_eq_true _)]
theorem kit_sub {K : PySem.W.Frag} {S D : Addr} {b : Bool} (h1 : ((Value.ref S) == (Value.ref D)) = false) (h2 : PySem.W.isClsIn K D = true) (h3 : PySem.W.typeIn K (.ref D) = some (.type "type")) (h4 : PySem.W.subIn K (.ref S) (.ref D) = some b) : PySem.W.kitOne K (.ref S) (.ref D) = some b := by
  have i2 : (PySem.W.clsIn K D).isSome = true := h2
  unfold PySem.W.kitOne
  rw [h1]
  simp [PySem.W.kitCls, i2, h3, h4]
theorem kit_ty {K : PySem.W.Frag} {S : Addr} {T : String} {b : Bool} (h1 : PySem.W.kitMeta T = true) (h4 : PySem.W.subIn K (.ref S) (.type T) = some b) : PySem.W.kitOne K (.ref S) (.type T) = some b := by
  unfold PySem.W.kitOne
  rw [if_neg (by rw [show ((Value.ref S) == (Value.type T)) = false from beq_eq_false_iff_ne.mpr (fun z => nomatch z)]; exact Bool.false_ne_true)]
  simp [PySem.W.kitCls, h1, h4]
theorem smallI_log {v : V} (h : SmallI v) : ∃ i : Int, v = .int i ∧ i.natAbs.log2 < 1920 := by
  obtain ⟨i, e, h0, h1⟩ := h
  refine ⟨i, e, ?_⟩
  by_cases e0 : i.natAbs = 0
  · rw [e0]; decide
  · rw [Nat.log2_lt e0]
    have h0 : (5000 : Nat) < 2 ^ 1920 := by decide +kernel
    omega
theorem all_mk {l : PySem.W.OpenLaw} {w : World} {K : PySem.W.Frag} {h : Heap} {mg : Str → Option Value} {fa : Addr} (X : K.In h) (G : h.Ns mainGlobals mg) (hfa : mg "law" = some (.ref fa))
    {f0 : Addr}
    {od0 an0 : Option Addr}
    {sl0 : Array (Option Value)}
    {oc0 kV0 dc0 pm0 cd0 ct0 : Value}
    {f1 : Addr}
    {od1 an1 : Option Addr}
    {sl1 : Array (Option Value)}
    {oc1 kV1 dc1 pm1 cd1 ct1 : Value}
    {f2 : Addr}
    {od2 an2 : Option Addr}
    {sl2 : Array (Option Value)}
    {oc2 kV2 dc2 pm2 cd2 ct2 : Value}
    {f3 : Addr}
    {od3 an3 : Option Addr}
    {sl3 : Array (Option Value)}
    {oc3 kV3 dc3 pm3 cd3 ct3 : Value}
    {f4 : Addr}
    {od4 an4 : Option Addr}
    {sl4 : Array (Option Value)}
    {oc4 kV4 dc4 pm4 cd4 ct4 : Value}
    {f5 : Addr}
    {od5 an5 : Option Addr}
    {sl5 : Array (Option Value)}
    {oc5 kV5 dc5 pm5 cd5 ct5 : Value}
    {f6 : Addr}
    {od6 an6 : Option Addr}
    {sl6 : Array (Option Value)}
    {oc6 kV6 dc6 pm6 cd6 ct6 : Value}
    {f7 : Addr}
    {od7 an7 : Option Addr}
    {sl7 : Array (Option Value)}
    {oc7 kV7 dc7 pm7 cd7 ct7 : Value}
    {f8 : Addr}
    {od8 an8 : Option Addr}
    {sl8 : Array (Option Value)}
    {oc8 kV8 dc8 pm8 cd8 ct8 : Value}
    {f9 : Addr}
    {od9 an9 : Option Addr}
    {sl9 : Array (Option Value)}
    {oc9 kV9 dc9 pm9 cd9 ct9 : Value}
    {f10 : Addr}
    {od10 an10 : Option Addr}
    {sl10 : Array (Option Value)}
    {oc10 kV10 dc10 pm10 cd10 ct10 : Value}
    {f11 : Addr}
    {od11 an11 : Option Addr}
    {sl11 : Array (Option Value)}
    {oc11 kV11 dc11 pm11 cd11 ct11 : Value}
    {f12 : Addr}
    {od12 an12 : Option Addr}
    {sl12 : Array (Option Value)}
    {oc12 kV12 dc12 pm12 cd12 ct12 : Value}
    {f13 : Addr}
    {od13 an13 : Option Addr}
    {sl13 : Array (Option Value)}
    {oc13 kV13 dc13 pm13 cd13 ct13 : Value}
    {f14 : Addr}
    {od14 an14 : Option Addr}
    {sl14 : Array (Option Value)}
    {oc14 kV14 dc14 pm14 cd14 ct14 : Value}
    {f15 : Addr}
    {od15 an15 : Option Addr}
    {sl15 : Array (Option Value)}
    {oc15 kV15 dc15 pm15 cd15 ct15 : Value}
    {f16 : Addr}
    {od16 an16 : Option Addr}
    {sl16 : Array (Option Value)}
    {oc16 kV16 dc16 pm16 cd16 ct16 : Value}
    {f17 : Addr}
    {od17 an17 : Option Addr}
    {sl17 : Array (Option Value)}
    {oc17 kV17 dc17 pm17 cd17 ct17 : Value}
    {f18 : Addr}
    {od18 an18 : Option Addr}
    {sl18 : Array (Option Value)}
    {oc18 kV18 dc18 pm18 cd18 ct18 : Value}
    {f19 : Addr}
    {od19 an19 : Option Addr}
    {sl19 : Array (Option Value)}
    {oc19 kV19 dc19 pm19 cd19 ct19 : Value}
    {f20 : Addr}
    {od20 an20 : Option Addr}
    {sl20 : Array (Option Value)}
    {oc20 kV20 dc20 pm20 cd20 ct20 : Value}
    {f21 : Addr}
    {od21 an21 : Option Addr}
    {sl21 : Array (Option Value)}
    {oc21 kV21 dc21 pm21 cd21 ct21 : Value}
    {f22 : Addr}
    {od22 an22 : Option Addr}
    {sl22 : Array (Option Value)}
    {oc22 kV22 dc22 pm22 cd22 ct22 : Value}
    {tX4 : Tok}
    {sXL : Str}
    {tXL : Tok}
    {TL feG ccG cdaG NG : Addr}
    {nmG qnG fileG : Str}
    {bsG bmG sbG : List Value}
    {snG : List Str}
    {abG : Bool}
    {coG : Option Bool}
    {ddG odG anG cdG ceG : Option Addr}
    {m0G m1G m2G m3G m5G : Option Value}
    {vsG : Array Value}
    {tfG : Tok}
    {slG csG czG : Array (Option Value)}
    {ocG kVG dcG pmG ctG clG cxG : Value}
    {BW feB ccB cdaB NB : Addr}
    {nmB qnB fileB : Str}
    {bsB bmB sbB : List Value}
    {snB : List Str}
    {abB : Bool}
    {coB : Option Bool}
    {ddB odB anB cdB ceB : Option Addr}
    {m0B m1B m2B m3B m5B : Option Value}
    {vsB : Array Value}
    {tfB : Tok}
    {slB csB czB : Array (Option Value)}
    {ocB kVB dcB pmB ctB clB cxB : Value}
    {NS feN ccN cdaN NN : Addr}
    {nmN qnN fileN : Str}
    {bsN bmN sbN : List Value}
    {snN : List Str}
    {abN : Bool}
    {coN : Option Bool}
    {ddN odN anN cdN ceN : Option Addr}
    {m0N m1N m2N m3N m5N : Option Value}
    {vsN : Array Value}
    {tfN : Tok}
    {slN csN czN : Array (Option Value)}
    {ocN kVN dcN pmN ctN clN cxN : Value}
    {CE : Addr}
    {WC : Addr}
    {fTI : Addr}
    {odTI anTI : Option Addr}
    {slTI : Array (Option Value)}
    {ocTI kVTI dcTI pmTI cdTI ctTI : Value}
    {fTL : Addr}
    {odTL anTL : Option Addr}
    {slTL : Array (Option Value)}
    {ocTL kVTL dcTL pmTL cdTL ctTL : Value}
    {fTM : Addr}
    {odTM anTM : Option Addr}
    {slTM : Array (Option Value)}
    {ocTM kVTM dcTM pmTM cdTM ctTM : Value}
    {fTK : Addr}
    {odTK anTK : Option Addr}
    {slTK : Array (Option Value)}
    {ocTK kVTK dcTK pmTK cdTK ctTK : Value}
    (a0 : PySem.W.nsIn K mainGlobals "is_name" = some (some (.ref f0)))
    (l0 : K.lookup f0 = some ⟨oc0, od0, .func (PySem.W.fnOf "is_name" "is_name" (defArgs s_is_name) (defBody s_is_name) (defScope s_is_name) .none kV0 dc0 pm0 an0 cd0 ct0), sl0⟩)
    (c0 : PySem.W.codeIn K cd0 "is_name" = true)
    (k0 : PySem.W.keepIn K (.ref f0) = true)
    (a1 : PySem.W.nsIn K mainGlobals "is_below" = some (some (.ref f1)))
    (l1 : K.lookup f1 = some ⟨oc1, od1, .func (PySem.W.fnOf "is_below" "is_below" (defArgs s_is_below) (defBody s_is_below) (defScope s_is_below) .none kV1 dc1 pm1 an1 cd1 ct1), sl1⟩)
    (c1 : PySem.W.codeIn K cd1 "is_below" = true)
    (k1 : PySem.W.keepIn K (.ref f1) = true)
    (a2 : PySem.W.nsIn K mainGlobals "is_number" = some (some (.ref f2)))
    (l2 : K.lookup f2 = some ⟨oc2, od2, .func (PySem.W.fnOf "is_number" "is_number" (defArgs s_is_number) (defBody s_is_number) (defScope s_is_number) .none kV2 dc2 pm2 an2 cd2 ct2), sl2⟩)
    (c2 : PySem.W.codeIn K cd2 "is_number" = true)
    (k2 : PySem.W.keepIn K (.ref f2) = true)
    (a3 : PySem.W.nsIn K mainGlobals "is_deed" = some (some (.ref f3)))
    (l3 : K.lookup f3 = some ⟨oc3, od3, .func (PySem.W.fnOf "is_deed" "is_deed" (defArgs s_is_deed) (defBody s_is_deed) (defScope s_is_deed) .none kV3 dc3 pm3 an3 cd3 ct3), sl3⟩)
    (c3 : PySem.W.codeIn K cd3 "is_deed" = true)
    (k3 : PySem.W.keepIn K (.ref f3) = true)
    (a4 : PySem.W.nsIn K mainGlobals "is_visible" = some (some (.ref f4)))
    (l4 : K.lookup f4 = some ⟨oc4, od4, .func (PySem.W.fnOf "is_visible" "is_visible" (defArgs s_is_visible) (defBody s_is_visible) (defScope s_is_visible) .none kV4 dc4 pm4 an4 cd4 ct4), sl4⟩)
    (c4 : PySem.W.codeIn K cd4 "is_visible" = true)
    (k4 : PySem.W.keepIn K (.ref f4) = true)
    (a5 : PySem.W.nsIn K mainGlobals "are_moves" = some (some (.ref f5)))
    (l5 : K.lookup f5 = some ⟨oc5, od5, .func (PySem.W.fnOf "are_moves" "are_moves" (defArgs s_are_moves) (defBody s_are_moves) (defScope s_are_moves) .none kV5 dc5 pm5 an5 cd5 ct5), sl5⟩)
    (c5 : PySem.W.codeIn K cd5 "are_moves" = true)
    (k5 : PySem.W.keepIn K (.ref f5) = true)
    (a6 : PySem.W.nsIn K mainGlobals "_law_cell" = some (some (.ref f6)))
    (l6 : K.lookup f6 = some ⟨oc6, od6, .func (PySem.W.fnOf "_law_cell" "_law_cell" (defArgs s_law_cell) (defBody s_law_cell) (defScope s_law_cell) .none kV6 dc6 pm6 an6 cd6 ct6), sl6⟩)
    (c6 : PySem.W.codeIn K cd6 "_law_cell" = true)
    (k6 : PySem.W.keepIn K (.ref f6) = true)
    (a7 : PySem.W.nsIn K mainGlobals "_law_draws" = some (some (.ref f7)))
    (l7 : K.lookup f7 = some ⟨oc7, od7, .func (PySem.W.fnOf "_law_draws" "_law_draws" (defArgs s_law_draws) (defBody s_law_draws) (defScope s_law_draws) .none kV7 dc7 pm7 an7 cd7 ct7), sl7⟩)
    (c7 : PySem.W.codeIn K cd7 "_law_draws" = true)
    (k7 : PySem.W.keepIn K (.ref f7) = true)
    (a8 : PySem.W.nsIn K mainGlobals "_law_menu" = some (some (.ref f8)))
    (l8 : K.lookup f8 = some ⟨oc8, od8, .func (PySem.W.fnOf "_law_menu" "_law_menu" (defArgs s_law_menu) (defBody s_law_menu) (defScope s_law_menu) .none kV8 dc8 pm8 an8 cd8 ct8), sl8⟩)
    (c8 : PySem.W.codeIn K cd8 "_law_menu" = true)
    (k8 : PySem.W.keepIn K (.ref f8) = true)
    (a9 : PySem.W.nsIn K mainGlobals "_law_same" = some (some (.ref f9)))
    (l9 : K.lookup f9 = some ⟨oc9, od9, .func (PySem.W.fnOf "_law_same" "_law_same" (defArgs s_law_same) (defBody s_law_same) (defScope s_law_same) .none kV9 dc9 pm9 an9 cd9 ct9), sl9⟩)
    (c9 : PySem.W.codeIn K cd9 "_law_same" = true)
    (k9 : PySem.W.keepIn K (.ref f9) = true)
    (a10 : PySem.W.nsIn K mainGlobals "_law_copy" = some (some (.ref f10)))
    (l10 : K.lookup f10 = some ⟨oc10, od10, .func (PySem.W.fnOf "_law_copy" "_law_copy" (defArgs s_law_copy) (defBody s_law_copy) (defScope s_law_copy) .none kV10 dc10 pm10 an10 cd10 ct10), sl10⟩)
    (c10 : PySem.W.codeIn K cd10 "_law_copy" = true)
    (k10 : PySem.W.keepIn K (.ref f10) = true)
    (a11 : PySem.W.nsIn K mainGlobals "_law_moves" = some (some (.ref f11)))
    (l11 : K.lookup f11 = some ⟨oc11, od11, .func (PySem.W.fnOf "_law_moves" "_law_moves" (defArgs s_law_moves) (defBody s_law_moves) (defScope s_law_moves) .none kV11 dc11 pm11 an11 cd11 ct11), sl11⟩)
    (c11 : PySem.W.codeIn K cd11 "_law_moves" = true)
    (k11 : PySem.W.keepIn K (.ref f11) = true)
    (a12 : PySem.W.nsIn K mainGlobals "_law_all" = some (some (.ref f12)))
    (l12 : K.lookup f12 = some ⟨oc12, od12, .func (PySem.W.fnOf "_law_all" "_law_all" (defArgs s_law_all) (defBody s_law_all) (defScope s_law_all) .none kV12 dc12 pm12 an12 cd12 ct12), sl12⟩)
    (c12 : PySem.W.codeIn K cd12 "_law_all" = true)
    (k12 : PySem.W.keepIn K (.ref f12) = true)
    (a13 : PySem.W.nsIn K mainGlobals "_law_rows" = some (some (.ref f13)))
    (l13 : K.lookup f13 = some ⟨oc13, od13, .func (PySem.W.fnOf "_law_rows" "_law_rows" (defArgs s_law_rows) (defBody s_law_rows) (defScope s_law_rows) .none kV13 dc13 pm13 an13 cd13 ct13), sl13⟩)
    (c13 : PySem.W.codeIn K cd13 "_law_rows" = true)
    (k13 : PySem.W.keepIn K (.ref f13) = true)
    (a14 : PySem.W.nsIn K mainGlobals "_law_odd" = some (some (.ref f14)))
    (l14 : K.lookup f14 = some ⟨oc14, od14, .func (PySem.W.fnOf "_law_odd" "_law_odd" (defArgs s_law_odd) (defBody s_law_odd) (defScope s_law_odd) .none kV14 dc14 pm14 an14 cd14 ct14), sl14⟩)
    (c14 : PySem.W.codeIn K cd14 "_law_odd" = true)
    (k14 : PySem.W.keepIn K (.ref f14) = true)
    (a15 : PySem.W.nsIn K mainGlobals "_law_spoil" = some (some (.ref f15)))
    (l15 : K.lookup f15 = some ⟨oc15, od15, .func (PySem.W.fnOf "_law_spoil" "_law_spoil" (defArgs s_law_spoil) (defBody s_law_spoil) (defScope s_law_spoil) .none kV15 dc15 pm15 an15 cd15 ct15), sl15⟩)
    (c15 : PySem.W.codeIn K cd15 "_law_spoil" = true)
    (k15 : PySem.W.keepIn K (.ref f15) = true)
    (a16 : PySem.W.nsIn K mainGlobals "_law_told" = some (some (.ref f16)))
    (l16 : K.lookup f16 = some ⟨oc16, od16, .func (PySem.W.fnOf "_law_told" "_law_told" (defArgs s_law_told) (defBody s_law_told) (defScope s_law_told) .none kV16 dc16 pm16 an16 cd16 ct16), sl16⟩)
    (c16 : PySem.W.codeIn K cd16 "_law_told" = true)
    (k16 : PySem.W.keepIn K (.ref f16) = true)
    (a17 : PySem.W.nsIn K mainGlobals "_law_no_standing" = some (some (.ref f17)))
    (l17 : K.lookup f17 = some ⟨oc17, od17, .func (PySem.W.fnOf "_law_no_standing" "_law_no_standing" (defArgs s_law_no_standing) (defBody s_law_no_standing) (defScope s_law_no_standing) .none kV17 dc17 pm17 an17 cd17 ct17), sl17⟩)
    (c17 : PySem.W.codeIn K cd17 "_law_no_standing" = true)
    (k17 : PySem.W.keepIn K (.ref f17) = true)
    (a18 : PySem.W.nsIn K mainGlobals "_law_kept" = some (some (.ref f18)))
    (l18 : K.lookup f18 = some ⟨oc18, od18, .func (PySem.W.fnOf "_law_kept" "_law_kept" (defArgs s_law_kept) (defBody s_law_kept) (defScope s_law_kept) .none kV18 dc18 pm18 an18 cd18 ct18), sl18⟩)
    (c18 : PySem.W.codeIn K cd18 "_law_kept" = true)
    (k18 : PySem.W.keepIn K (.ref f18) = true)
    (a19 : PySem.W.nsIn K mainGlobals "_law_refused" = some (some (.ref f19)))
    (l19 : K.lookup f19 = some ⟨oc19, od19, .func (PySem.W.fnOf "_law_refused" "_law_refused" (defArgs s_law_refused) (defBody s_law_refused) (defScope s_law_refused) .none kV19 dc19 pm19 an19 cd19 ct19), sl19⟩)
    (c19 : PySem.W.codeIn K cd19 "_law_refused" = true)
    (k19 : PySem.W.keepIn K (.ref f19) = true)
    (a20 : PySem.W.nsIn K mainGlobals "_law_too_large" = some (some (.ref f20)))
    (l20 : K.lookup f20 = some ⟨oc20, od20, .func (PySem.W.fnOf "_law_too_large" "_law_too_large" (defArgs s_law_too_large) (defBody s_law_too_large) (defScope s_law_too_large) .none kV20 dc20 pm20 an20 cd20 ct20), sl20⟩)
    (c20 : PySem.W.codeIn K cd20 "_law_too_large" = true)
    (k20 : PySem.W.keepIn K (.ref f20) = true)
    (a21 : PySem.W.nsIn K mainGlobals "_law_greatest" = some (some (.ref f21)))
    (l21 : K.lookup f21 = some ⟨oc21, od21, .func (PySem.W.fnOf "_law_greatest" "_law_greatest" (defArgs s_law_greatest) (defBody s_law_greatest) (defScope s_law_greatest) .none kV21 dc21 pm21 an21 cd21 ct21), sl21⟩)
    (c21 : PySem.W.codeIn K cd21 "_law_greatest" = true)
    (k21 : PySem.W.keepIn K (.ref f21) = true)
    (a22 : PySem.W.nsIn K mainGlobals "law" = some (some (.ref f22)))
    (l22 : K.lookup f22 = some ⟨oc22, od22, .func (PySem.W.fnOf "law" "law" (defArgs s_law) (defBody s_law) (defScope s_law) .none kV22 dc22 pm22 an22 cd22 ct22), sl22⟩)
    (c22 : PySem.W.codeIn K cd22 "law" = true)
    (k22 : PySem.W.keepIn K (.ref f22) = true)
    (z_isinstance : PySem.W.nsIn K mainGlobals "isinstance" = some none)
    (z_str : PySem.W.nsIn K mainGlobals "str" = some none)
    (z_int : PySem.W.nsIn K mainGlobals "int" = some none)
    (z_bool : PySem.W.nsIn K mainGlobals "bool" = some none)
    (z_tuple : PySem.W.nsIn K mainGlobals "tuple" = some none)
    (z_list : PySem.W.nsIn K mainGlobals "list" = some none)
    (z_len : PySem.W.nsIn K mainGlobals "len" = some none)
    (z_all : PySem.W.nsIn K mainGlobals "all" = some none)
    (z_sorted : PySem.W.nsIn K mainGlobals "sorted" = some none)
    (z_range : PySem.W.nsIn K mainGlobals "range" = some none)
    (z_enumerate : PySem.W.nsIn K mainGlobals "enumerate" = some none)
    (z_abs : PySem.W.nsIn K mainGlobals "abs" = some none)
    (z_min : PySem.W.nsIn K mainGlobals "min" = some none)
    (z_super : PySem.W.nsIn K mainGlobals "super" = some none)
    (z_ValueError : PySem.W.nsIn K mainGlobals "ValueError" = some none)
    (gX4 : PySem.W.nsIn K mainGlobals "MOST_STANDINGS" = some (some (.int 4000 tX4)))
    (gXL : PySem.W.nsIn K mainGlobals "LETTERS" = some (some (.str sXL tXL)))
    (eXL : sXL = lets)
    (aG : PySem.W.nsIn K mainGlobals "TooLarge" = some (some (.ref TL)))
    (xG : K.lookup TL = some (excClassObj nmG qnG TL NG bsG bmG true snG sbG abG coG ddG m0G m1G m2G m3G m5G "ValueError.__new__"))
    (rG : PySem.HandSPX.refsVE bmG = true)
    (b1G : PySem.W.findIn K (.ref TL) "__setattr__" = some (some (.builtin "object.__setattr__")))
    (q1G : PySem.W.subIn K (.ref TL) (.type "BaseException") = some true)
    (q2G : PySem.W.isClsIn K TL = true)
    (q3G : PySem.W.typeIn K (.ref TL) = some (.type "type"))
    (b4G : PySem.W.keepIn K (.ref TL) = true)
    (b5G : PySem.W.findIn K (.ref TL) "__init__" = some (some (.ref feG)))
    (b6G : PySem.W.typeIn K (.ref feG) = some (.type "function"))
    (lG : K.lookup feG = some ⟨ocG, odG, .func (PySem.W.fnX "__init__" "TooLarge.__init__" (defArgs s_TooLarge_init) (defBody s_TooLarge_init) (defScope s_TooLarge_init) [("__class__", ccG)] .none kVG dcG pmG anG (.ref cdaG) ctG), slG⟩)
    (cG : PySem.W.codeIn K (.ref cdaG) "TooLarge.__init__" = true)
    (kG : PySem.W.keepIn K (.ref feG) = true)
    (eG : K.lookup ccG = some ⟨clG, cdG, .cell (some (.ref TL)), csG⟩)
    (b7G : PySem.W.ks_superIn K TL TL "__init__" = some (some (.builtin "ValueError.__init__")))
    (b8G : PySem.W.subIn K (.ref TL) (.type "ValueError") = some true)
    (b9 : PySem.W.nsIn K cStatics "thirdparty.any" = some none)
    (b14 : (l.prog.main.scope.names.lookup ("super" : Str)).isSome = false)
    (b31 : PySem.W.kitMeta "ValueError" = true)
    (p12 : PySem.W.specialIn K (.builtin "object.__class__") "__get__" = some (some (.builtin "getset_descriptor.__get__")))
    (p13 : PySem.W.takesIn K (.builtin "object.__class__") = some true)
    (b10G : PySem.W.mroIn K TL (.ref TL) = some true)
    (b11G : K.lookup cdaG = some ⟨cxG, ceG, .fields vsG, czG⟩)
    (b12G : vsG[2]? = some (.str fileG tfG))
    (b13G : ((l.prog.main.file : Str) == fileG) = true)
    (b15G : PySem.W.findIn K (.ref TL) "bound" = some none)
    (b17G : PySem.W.findIn K (.ref TL) "__getattribute__" = some (some (.builtin "BaseException.__getattribute__")))
    (b18G : PySem.W.findIn K (.ref TL) "__getattr__" = some none)
    (b19G : PySem.W.hasDictIn K TL = true)
    (b25G : PySem.W.findIn K (.ref TL) "__class__" = some (some (.builtin "object.__class__")))
    (b26G : PySem.W.mroIn K TL (.type "object") = some true)
    (aB : PySem.W.nsIn K mainGlobals "BadWeb" = some (some (.ref BW)))
    (xB : K.lookup BW = some (excClassObj nmB qnB BW NB bsB bmB true snB sbB abB coB ddB m0B m1B m2B m3B m5B "ValueError.__new__"))
    (rB : PySem.HandSPX.refsVE bmB = true)
    (b1B : PySem.W.findIn K (.ref BW) "__setattr__" = some (some (.builtin "object.__setattr__")))
    (q1B : PySem.W.subIn K (.ref BW) (.type "BaseException") = some true)
    (q2B : PySem.W.isClsIn K BW = true)
    (q3B : PySem.W.typeIn K (.ref BW) = some (.type "type"))
    (b4B : PySem.W.keepIn K (.ref BW) = true)
    (b5B : PySem.W.findIn K (.ref BW) "__init__" = some (some (.ref feB)))
    (b6B : PySem.W.typeIn K (.ref feB) = some (.type "function"))
    (lB : K.lookup feB = some ⟨ocB, odB, .func (PySem.W.fnX "__init__" "BadWeb.__init__" (defArgs s_BadWeb_init) (defBody s_BadWeb_init) (defScope s_BadWeb_init) [("__class__", ccB)] .none kVB dcB pmB anB (.ref cdaB) ctB), slB⟩)
    (cB : PySem.W.codeIn K (.ref cdaB) "BadWeb.__init__" = true)
    (kB : PySem.W.keepIn K (.ref feB) = true)
    (eB : K.lookup ccB = some ⟨clB, cdB, .cell (some (.ref BW)), csB⟩)
    (b7B : PySem.W.ks_superIn K BW BW "__init__" = some (some (.builtin "ValueError.__init__")))
    (b8B : PySem.W.subIn K (.ref BW) (.type "ValueError") = some true)
    (b10B : PySem.W.mroIn K BW (.ref BW) = some true)
    (b11B : K.lookup cdaB = some ⟨cxB, ceB, .fields vsB, czB⟩)
    (b12B : vsB[2]? = some (.str fileB tfB))
    (b13B : ((l.prog.main.file : Str) == fileB) = true)
    (b15B : PySem.W.findIn K (.ref BW) "at" = some none)
    (b17B : PySem.W.findIn K (.ref BW) "__getattribute__" = some (some (.builtin "BaseException.__getattribute__")))
    (b18B : PySem.W.findIn K (.ref BW) "__getattr__" = some none)
    (b19B : PySem.W.hasDictIn K BW = true)
    (b25B : PySem.W.findIn K (.ref BW) "__class__" = some (some (.builtin "object.__class__")))
    (b26B : PySem.W.mroIn K BW (.type "object") = some true)
    (aN : PySem.W.nsIn K mainGlobals "NoStanding" = some (some (.ref NS)))
    (xN : K.lookup NS = some (excClassObj nmN qnN NS NN bsN bmN true snN sbN abN coN ddN m0N m1N m2N m3N m5N "ValueError.__new__"))
    (rN : PySem.HandSPX.refsVE bmN = true)
    (b1N : PySem.W.findIn K (.ref NS) "__setattr__" = some (some (.builtin "object.__setattr__")))
    (q1N : PySem.W.subIn K (.ref NS) (.type "BaseException") = some true)
    (q2N : PySem.W.isClsIn K NS = true)
    (q3N : PySem.W.typeIn K (.ref NS) = some (.type "type"))
    (b4N : PySem.W.keepIn K (.ref NS) = true)
    (b5N : PySem.W.findIn K (.ref NS) "__init__" = some (some (.ref feN)))
    (b6N : PySem.W.typeIn K (.ref feN) = some (.type "function"))
    (lN : K.lookup feN = some ⟨ocN, odN, .func (PySem.W.fnX "__init__" "NoStanding.__init__" (defArgs s_NoStanding_init) (defBody s_NoStanding_init) (defScope s_NoStanding_init) [("__class__", ccN)] .none kVN dcN pmN anN (.ref cdaN) ctN), slN⟩)
    (cN : PySem.W.codeIn K (.ref cdaN) "NoStanding.__init__" = true)
    (kN : PySem.W.keepIn K (.ref feN) = true)
    (eN : K.lookup ccN = some ⟨clN, cdN, .cell (some (.ref NS)), csN⟩)
    (b7N : PySem.W.ks_superIn K NS NS "__init__" = some (some (.builtin "ValueError.__init__")))
    (b8N : PySem.W.subIn K (.ref NS) (.type "ValueError") = some true)
    (b10N : PySem.W.mroIn K NS (.ref NS) = some true)
    (b11N : K.lookup cdaN = some ⟨cxN, ceN, .fields vsN, czN⟩)
    (b12N : vsN[2]? = some (.str fileN tfN))
    (b13N : ((l.prog.main.file : Str) == fileN) = true)
    (b15N : PySem.W.findIn K (.ref NS) "at" = some none)
    (b17N : PySem.W.findIn K (.ref NS) "__getattribute__" = some (some (.builtin "BaseException.__getattribute__")))
    (b18N : PySem.W.findIn K (.ref NS) "__getattr__" = some none)
    (b19N : PySem.W.hasDictIn K NS = true)
    (b25N : PySem.W.findIn K (.ref NS) "__class__" = some (some (.builtin "object.__class__")))
    (b26N : PySem.W.mroIn K NS (.type "object") = some true)
    (aC : PySem.W.nsIn K mainGlobals "CoreError" = some (some (.ref CE)))
    (q1C : PySem.W.subIn K (.ref CE) (.type "BaseException") = some true)
    (q2C : PySem.W.isClsIn K CE = true)
    (q3C : PySem.W.typeIn K (.ref CE) = some (.type "type"))
    (aT : PySem.W.nsIn K mainGlobals "Web" = some (some (.ref WC)))
    (p1T : PySem.W.plainGet K WC Str.empty = true)
    (p2T : PySem.W.hasDictIn K WC = true)
    (p3T : PySem.W.plainOver K WC = true)
    (p4T : PySem.W.findIn K (.ref WC) "__setattr__" = some (some (.builtin "object.__setattr__")))
    (n0T : PySem.W.findIn K (.ref WC) "_rows" = some none)
    (n1T : PySem.W.findIn K (.ref WC) "_goals" = some none)
    (n2T : PySem.W.findIn K (.ref WC) "_hidden" = some none)
    (p9T : PySem.W.keepIn K (.ref WC) = true)
    (p5T : PySem.W.makesIn K WC = true)
    (mTI : PySem.W.findIn K (.ref WC) "__init__" = some (some (.ref fTI)))
    (hTI : PySem.W.isFn K (.ref fTI) = true)
    (lTI : K.lookup fTI = some ⟨ocTI, odTI, .func (PySem.W.fnOf "__init__" "Web.__init__" (defArgs s_Web_init) (defBody s_Web_init) (defScope s_Web_init) .none kVTI dcTI pmTI anTI cdTI ctTI), slTI⟩)
    (cTI : PySem.W.codeIn K cdTI "Web.__init__" = true)
    (kTI : PySem.W.keepIn K (.ref fTI) = true)
    (mTL : PySem.W.findIn K (.ref WC) "__len__" = some (some (.ref fTL)))
    (hTL : PySem.W.isFn K (.ref fTL) = true)
    (lTL : K.lookup fTL = some ⟨ocTL, odTL, .func (PySem.W.fnOf "__len__" "Web.__len__" (defArgs s_Web_len) (defBody s_Web_len) (defScope s_Web_len) .none kVTL dcTL pmTL anTL cdTL ctTL), slTL⟩)
    (cTL : PySem.W.codeIn K cdTL "Web.__len__" = true)
    (kTL : PySem.W.keepIn K (.ref fTL) = true)
    (mTM : PySem.W.findIn K (.ref WC) "moves" = some (some (.ref fTM)))
    (hTM : PySem.W.isFn K (.ref fTM) = true)
    (lTM : K.lookup fTM = some ⟨ocTM, odTM, .func (PySem.W.fnOf "moves" "Web.moves" (defArgs s_Web_moves) (defBody s_Web_moves) (defScope s_Web_moves) .none kVTM dcTM pmTM anTM cdTM ctTM), slTM⟩)
    (cTM : PySem.W.codeIn K cdTM "Web.moves" = true)
    (kTM : PySem.W.keepIn K (.ref fTM) = true)
    (mTK : PySem.W.findIn K (.ref WC) "check" = some (some (.ref fTK)))
    (hTK : PySem.W.isFn K (.ref fTK) = true)
    (lTK : K.lookup fTK = some ⟨ocTK, odTK, .func (PySem.W.fnOf "check" "Web.check" (defArgs s_Web_check) (defBody s_Web_check) (defScope s_Web_check) .none kVTK dcTK pmTK anTK cdTK ctTK), slTK⟩)
    (cTK : PySem.W.codeIn K cdTK "Web.check" = true)
    (kTK : PySem.W.keepIn K (.ref fTK) = true)
    (sNS : PySem.W.subIn K (.ref NS) (.ref NS) = some true)
    (sNSC : PySem.W.subIn K (.ref NS) (.ref CE) = some true)
    (eNSC : ((Value.ref NS) == (Value.ref CE)) = false)
    (sBW : PySem.W.subIn K (.ref BW) (.ref BW) = some true)
    (sBWC : PySem.W.subIn K (.ref BW) (.ref CE) = some true)
    (eBWC : ((Value.ref BW) == (Value.ref CE)) = false)
    (sTL : PySem.W.subIn K (.ref TL) (.ref TL) = some true)
    (sTLC : PySem.W.subIn K (.ref TL) (.ref CE) = some true)
    (eTLC : ((Value.ref TL) == (Value.ref CE)) = false)
    (sNSBW : PySem.W.subIn K (.ref NS) (.ref BW) = some false)
    (eNSBW : ((Value.ref NS) == (Value.ref BW)) = false)
    (sBWTL : PySem.W.subIn K (.ref BW) (.ref TL) = some false)
    (eBWTL : ((Value.ref BW) == (Value.ref TL)) = false)
    (sTLBW : PySem.W.subIn K (.ref TL) (.ref BW) = some false)
    (eTLBW : ((Value.ref TL) == (Value.ref BW)) = false) :
    ∃ fd : FuncData, (∀ (s : Shared) (v : Value), BindsTo s fd ⟨[v], []⟩ [("_law_script", v)]) ∧ ∀ base : Heap, K.In base → base.Ns mainGlobals mg → FnOk l.prog w K mg base CX0 8 fa fd ["_law_script"] (spLaw K) := by
  cases hfa.symm.trans (PySem.W.mg_of X G a22)
  subst eXL
  refine ⟨PySem.W.fnOf "law" "law" (defArgs s_law) (defBody s_law) (defScope s_law) .none kV22 dc22 pm22 an22 cd22 ct22, fun s v => .of_eq rfl, fun base _ _ => ?_⟩
  have T1 : Bt mg tXL tX4 tX4 := ⟨(PySem.W.mg_none_of X G z_isinstance), (PySem.W.mg_none_of X G z_str), (PySem.W.mg_none_of X G z_int), (PySem.W.mg_none_of X G z_bool), (PySem.W.mg_none_of X G z_tuple), (PySem.W.mg_none_of X G z_list), (PySem.W.mg_none_of X G z_len), (PySem.W.mg_none_of X G z_all), (PySem.W.mg_of X G gXL)⟩
  have TW : BtW mg tX4 := ⟨(PySem.W.mg_none_of X G z_sorted), (PySem.W.mg_none_of X G z_list), (PySem.W.mg_none_of X G z_len), (PySem.W.mg_none_of X G z_enumerate), (PySem.W.mg_of X G gX4)⟩
  have TG : BtG mg := ⟨(PySem.W.mg_none_of X G z_len), (PySem.W.mg_none_of X G z_int), (PySem.W.mg_none_of X G z_abs), (PySem.W.mg_none_of X G z_range)⟩
  have TX : BtX mg := ⟨(PySem.W.mg_none_of X G z_isinstance), (PySem.W.mg_none_of X G z_bool), (PySem.W.mg_none_of X G z_int), (PySem.W.mg_none_of X G z_str), (PySem.W.mg_none_of X G z_len), (PySem.W.mg_none_of X G z_range), (PySem.W.mg_none_of X G z_tuple), (PySem.W.mg_none_of X G z_list)⟩
  have TO : BtO mg := ⟨(PySem.W.mg_none_of X G z_len), (PySem.W.mg_none_of X G z_range), (PySem.W.mg_none_of X G z_sorted)⟩
  have TD : BtD mg := ⟨(PySem.W.mg_none_of X G z_list)⟩
  have TLw : BtL mg := ⟨(PySem.W.mg_none_of X G z_len), (PySem.W.mg_none_of X G z_int), (PySem.W.mg_none_of X G z_range), (PySem.W.mg_none_of X G z_min)⟩
  have OXG : OexC K TL := ⟨⟨nmG, qnG, NG, bsG, bmG, snG, sbG, abG, coG, ddG, m0G, m1G, m2G, m3G, m5G, xG, rG⟩, b1G, q1G, q3G, b4G⟩
  have ECG : ErrC K TL := ⟨OXG, b7G, b8G, b9, b10G⟩
  have CFG : CodeF K l.prog cdaG := ⟨⟨cxG, ceG, vsG, czG, fileG, tfG, b11G, b12G, b13G⟩, b14⟩
  have FXG : FunX K "__init__" "TooLarge.__init__" s_TooLarge_init feG _ ccG cdaG TL := ⟨⟨ocG, odG, kVG, dcG, pmG, anG, ctG, slG, rfl, lG, cG⟩, ⟨clG, cdG, csG, eG⟩, kG⟩
  have KTG : KitC K TL := ⟨q2G, b17G, b18G, q1G, b25G, p12, p13, b26G⟩
  have GXG := ok_TooLarge_init (P := l.prog) (w := w) (base := base) (mg := mg) (CX := L2.CX l.prog w) (Pf := SmallI) FXG ECG CFG (PySem.W.mg_none_of X G z_super) b15G (fun v h => smallI_log h)
  have ERG : Er1 l.prog w K mg base "TooLarge" "bound" TL feG _ ["self", "bound"] SmallI := ⟨(PySem.W.mg_of X G aG), OXG, b5G, b6G, .all fun us hl => match us, hl with | [_, _], _ => rfl, GXG⟩
  have OXB : OexC K BW := ⟨⟨nmB, qnB, NB, bsB, bmB, snB, sbB, abB, coB, ddB, m0B, m1B, m2B, m3B, m5B, xB, rB⟩, b1B, q1B, q3B, b4B⟩
  have ECB : ErrC K BW := ⟨OXB, b7B, b8B, b9, b10B⟩
  have CFB : CodeF K l.prog cdaB := ⟨⟨cxB, ceB, vsB, czB, fileB, tfB, b11B, b12B, b13B⟩, b14⟩
  have FXB : FunX K "__init__" "BadWeb.__init__" s_BadWeb_init feB _ ccB cdaB BW := ⟨⟨ocB, odB, kVB, dcB, pmB, anB, ctB, slB, rfl, lB, cB⟩, ⟨clB, cdB, csB, eB⟩, kB⟩
  have KTB : KitC K BW := ⟨q2B, b17B, b18B, q1B, b25B, p12, p13, b26B⟩
  have GXB := ok_BadWeb_init (P := l.prog) (w := w) (base := base) (mg := mg) (CX := L2.CX l.prog w) (Pf := SmallI) FXB ECB CFB (PySem.W.mg_none_of X G z_super) b15B (fun v h => smallI_log h)
  have ERB : Er1 l.prog w K mg base "BadWeb" "at" BW feB _ ["self", "at"] SmallI := ⟨(PySem.W.mg_of X G aB), OXB, b5B, b6B, .all fun us hl => match us, hl with | [_, _], _ => rfl, GXB⟩
  have OXN : OexC K NS := ⟨⟨nmN, qnN, NN, bsN, bmN, snN, sbN, abN, coN, ddN, m0N, m1N, m2N, m3N, m5N, xN, rN⟩, b1N, q1N, q3N, b4N⟩
  have ECN : ErrC K NS := ⟨OXN, b7N, b8N, b9, b10N⟩
  have CFN : CodeF K l.prog cdaN := ⟨⟨cxN, ceN, vsN, czN, fileN, tfN, b11N, b12N, b13N⟩, b14⟩
  have FXN : FunX K "__init__" "NoStanding.__init__" s_NoStanding_init feN _ ccN cdaN NS := ⟨⟨ocN, odN, kVN, dcN, pmN, anN, ctN, slN, rfl, lN, cN⟩, ⟨clN, cdN, csN, eN⟩, kN⟩
  have KTN : KitC K NS := ⟨q2N, b17N, b18N, q1N, b25N, p12, p13, b26N⟩
  have GXN := ok_NoStanding_init (P := l.prog) (w := w) (base := base) (mg := mg) (CX := L2.CX l.prog w) (Pf := (fun _ => True)) FXN ECN CFN (PySem.W.mg_none_of X G z_super) b15N
  have ERN : Er1 l.prog w K mg base "NoStanding" "at" NS feN _ ["self", "at"] (fun _ => True) := ⟨(PySem.W.mg_of X G aN), OXN, b5N, b6N, .all fun us hl => match us, hl with | [_, _], _ => rfl, GXN⟩
  have C : WbC K mg WC := ⟨(PySem.W.mg_of X G aT), ⟨p1T, p2T, p3T, p4T⟩, n0T, n1T, n2T⟩
  have TE : BtE1 K mg CE NS BW TL := ⟨(PySem.W.mg_none_of X G z_isinstance), (PySem.W.mg_none_of X G z_ValueError), (PySem.W.mg_of X G aN), (PySem.W.mg_of X G aC), (PySem.W.mg_of X G aB), (PySem.W.mg_of X G aG), ⟨(PySem.W.mg_none_of X G z_isinstance), (PySem.W.mg_none_of X G z_ValueError), (PySem.W.mg_of X G aN), (PySem.W.mg_of X G aC), (PySem.W.mg_of X G aB), ⟨b17N, b18N, q1N, b19N⟩, b15N, exm_sub q1N q2N q3N sNS, KTN, kit_sub eNSC q2C q3C sNSC, kit_ty b31 b8N, kit_sub eNSBW q2B q3B sNSBW⟩, ⟨(PySem.W.mg_none_of X G z_isinstance), (PySem.W.mg_none_of X G z_ValueError), (PySem.W.mg_of X G aB), (PySem.W.mg_of X G aC), (PySem.W.mg_of X G aG), ⟨b17B, b18B, q1B, b19B⟩, b15B, exm_sub q1B q2B q3B sBW, KTB, kit_sub eBWC q2C q3C sBWC, kit_ty b31 b8B, kit_sub eBWTL q2G q3G sBWTL⟩, ⟨(PySem.W.mg_none_of X G z_isinstance), (PySem.W.mg_none_of X G z_ValueError), (PySem.W.mg_of X G aG), (PySem.W.mg_of X G aC), (PySem.W.mg_of X G aB), ⟨b17G, b18G, q1G, b19G⟩, b15G, exm_sub q1G q2G q3G sTL, KTG, kit_sub eTLC q2C q3C sTLC, kit_ty b31 b8G, kit_sub eTLBW q2B q3B sTLBW⟩⟩
  have F0 := fun_mk (st := s_is_name) l0 c0 k0
  have D0 : Df K mg "is_name" s_is_name ["value"] f0 _ := ⟨F0, PySem.W.mg_of X G a0, F0.binds (ps := ["value"]) fun _ _ _ _ _ _ us hl => match us, hl with | [_], _ => rfl⟩
  have F1 := fun_mk (st := s_is_below) l1 c1 k1
  have D1 : Df K mg "is_below" s_is_below ["value", "bound"] f1 _ := ⟨F1, PySem.W.mg_of X G a1, F1.binds (ps := ["value", "bound"]) fun _ _ _ _ _ _ us hl => match us, hl with | [_, _], _ => rfl⟩
  have F2 := fun_mk (st := s_is_number) l2 c2 k2
  have D2 : Df K mg "is_number" s_is_number ["value"] f2 _ := ⟨F2, PySem.W.mg_of X G a2, F2.binds (ps := ["value"]) fun _ _ _ _ _ _ us hl => match us, hl with | [_], _ => rfl⟩
  have F3 := fun_mk (st := s_is_deed) l3 c3 k3
  have D3 : Df K mg "is_deed" s_is_deed ["value"] f3 _ := ⟨F3, PySem.W.mg_of X G a3, F3.binds (ps := ["value"]) fun _ _ _ _ _ _ us hl => match us, hl with | [_], _ => rfl⟩
  have F4 := fun_mk (st := s_is_visible) l4 c4 k4
  have D4 : Df K mg "is_visible" s_is_visible ["deed"] f4 _ := ⟨F4, PySem.W.mg_of X G a4, F4.binds (ps := ["deed"]) fun _ _ _ _ _ _ us hl => match us, hl with | [_], _ => rfl⟩
  have F5 := fun_mk (st := s_are_moves) l5 c5 k5
  have D5 : Df K mg "are_moves" s_are_moves ["row", "many"] f5 _ := ⟨F5, PySem.W.mg_of X G a5, F5.binds (ps := ["row", "many"]) fun _ _ _ _ _ _ us hl => match us, hl with | [_, _], _ => rfl⟩
  have F6 := fun_mk (st := s_law_cell) l6 c6 k6
  have D6 : Df K mg "_law_cell" s_law_cell ["_law_script", "_law_k"] f6 _ := ⟨F6, PySem.W.mg_of X G a6, F6.binds (ps := ["_law_script", "_law_k"]) fun _ _ _ _ _ _ us hl => match us, hl with | [_, _], _ => rfl⟩
  have F7 := fun_mk (st := s_law_draws) l7 c7 k7
  have D7 : Df K mg "_law_draws" s_law_draws ["_law_cell_here", "_law_spans"] f7 _ := ⟨F7, PySem.W.mg_of X G a7, F7.binds (ps := ["_law_cell_here", "_law_spans"]) fun _ _ _ _ _ _ us hl => match us, hl with | [_, _], _ => rfl⟩
  have F8 := fun_mk (st := s_law_menu) l8 c8 k8
  have D8 : Df K mg "_law_menu" s_law_menu ["_law_cell_here", "_law_many"] f8 _ := ⟨F8, PySem.W.mg_of X G a8, F8.binds (ps := ["_law_cell_here", "_law_many"]) fun _ _ _ _ _ _ us hl => match us, hl with | [_, _], _ => rfl⟩
  have F9 := fun_mk (st := s_law_same) l9 c9 k9
  have D9 : Df K mg "_law_same" s_law_same ["_law_told_here", "_law_due"] f9 _ := ⟨F9, PySem.W.mg_of X G a9, F9.binds (ps := ["_law_told_here", "_law_due"]) fun _ _ _ _ _ _ us hl => match us, hl with | [_, _], _ => rfl⟩
  have F10 := fun_mk (st := s_law_copy) l10 c10 k10
  have D10 : Df K mg "_law_copy" s_law_copy ["_law_rows_here"] f10 _ := ⟨F10, PySem.W.mg_of X G a10, F10.binds (ps := ["_law_rows_here"]) fun _ _ _ _ _ _ us hl => match us, hl with | [_], _ => rfl⟩
  have F11 := fun_mk (st := s_law_moves) l11 c11 k11
  have D11 : Df K mg "_law_moves" s_law_moves ["_law_cell_here", "_law_menu_here", "_law_size"] f11 _ := ⟨F11, PySem.W.mg_of X G a11, F11.binds (ps := ["_law_cell_here", "_law_menu_here", "_law_size"]) fun _ _ _ _ _ _ us hl => match us, hl with | [_, _, _], _ => rfl⟩
  have F12 := fun_mk (st := s_law_all) l12 c12 k12
  have D12 : Df K mg "_law_all" s_law_all ["_law_cell_here", "_law_size"] f12 _ := ⟨F12, PySem.W.mg_of X G a12, F12.binds (ps := ["_law_cell_here", "_law_size"]) fun _ _ _ _ _ _ us hl => match us, hl with | [_, _], _ => rfl⟩
  have F13 := fun_mk (st := s_law_rows) l13 c13 k13
  have D13 : Df K mg "_law_rows" s_law_rows ["_law_script", "_law_menu_here", "_law_wide", "_law_size"] f13 _ := ⟨F13, PySem.W.mg_of X G a13, F13.binds (ps := ["_law_script", "_law_menu_here", "_law_wide", "_law_size"]) fun _ _ _ _ _ _ us hl => match us, hl with | [_, _, _, _], _ => rfl⟩
  have F14 := fun_mk (st := s_law_odd) l14 c14 k14
  have D14 : Df K mg "_law_odd" s_law_odd ["_law_good", "_law_size"] f14 _ := ⟨F14, PySem.W.mg_of X G a14, F14.binds (ps := ["_law_good", "_law_size"]) fun _ _ _ _ _ _ us hl => match us, hl with | [_, _], _ => rfl⟩
  have F15 := fun_mk (st := s_law_spoil) l15 c15 k15
  have D15 : Df K mg "_law_spoil" s_law_spoil ["_law_rows_here", "_law_clean", "_law_menu_here", "_law_cell_here"] f15 _ := ⟨F15, PySem.W.mg_of X G a15, F15.binds (ps := ["_law_rows_here", "_law_clean", "_law_menu_here", "_law_cell_here"]) fun _ _ _ _ _ _ us hl => match us, hl with | [_, _, _, _], _ => rfl⟩
  have F16 := fun_mk (st := s_law_told) l16 c16 k16
  have D16 : Df K mg "_law_told" s_law_told ["_law_web", "_law_rows_here"] f16 _ := ⟨F16, PySem.W.mg_of X G a16, F16.binds (ps := ["_law_web", "_law_rows_here"]) fun _ _ _ _ _ _ us hl => match us, hl with | [_, _], _ => rfl⟩
  have F17 := fun_mk (st := s_law_no_standing) l17 c17 k17
  have D17 : Df K mg "_law_no_standing" s_law_no_standing ["_law_web", "_law_at"] f17 _ := ⟨F17, PySem.W.mg_of X G a17, F17.binds (ps := ["_law_web", "_law_at"]) fun _ _ _ _ _ _ us hl => match us, hl with | [_, _], _ => rfl⟩
  have F18 := fun_mk (st := s_law_kept) l18 c18 k18
  have D18 : Df K mg "_law_kept" s_law_kept ["_law_rows_here"] f18 _ := ⟨F18, PySem.W.mg_of X G a18, F18.binds (ps := ["_law_rows_here"]) fun _ _ _ _ _ _ us hl => match us, hl with | [_], _ => rfl⟩
  have F19 := fun_mk (st := s_law_refused) l19 c19 k19
  have D19 : Df K mg "_law_refused" s_law_refused ["_law_rows_here", "_law_at"] f19 _ := ⟨F19, PySem.W.mg_of X G a19, F19.binds (ps := ["_law_rows_here", "_law_at"]) fun _ _ _ _ _ _ us hl => match us, hl with | [_, _], _ => rfl⟩
  have F20 := fun_mk (st := s_law_too_large) l20 c20 k20
  have D20 : Df K mg "_law_too_large" s_law_too_large ["_law_rows_here"] f20 _ := ⟨F20, PySem.W.mg_of X G a20, F20.binds (ps := ["_law_rows_here"]) fun _ _ _ _ _ _ us hl => match us, hl with | [_], _ => rfl⟩
  have F21 := fun_mk (st := s_law_greatest) l21 c21 k21
  have D21 : Df K mg "_law_greatest" s_law_greatest [] f21 _ := ⟨F21, PySem.W.mg_of X G a21, F21.binds (ps := []) fun _ _ _ _ _ _ us hl => match us, hl with | [], _ => rfl⟩
  have F22 := fun_mk (st := s_law) l22 c22 k22
  have D22 : Df K mg "law" s_law ["_law_script"] fa _ := ⟨F22, PySem.W.mg_of X G a22, F22.binds (ps := ["_law_script"]) fun _ _ _ _ _ _ us hl => match us, hl with | [_], _ => rfl⟩
  have FTI := fun_mk (st := s_Web_init) lTI cTI kTI
  have bTI : Binds K _ ["self", "rows"] [] := FTI.binds (ps := ["self", "rows"]) fun _ _ _ _ _ _ us hl => match us, hl with | [_, _], _ => rfl
  have FTL := fun_mk (st := s_Web_len) lTL cTL kTL
  have bTL : Binds K _ ["self"] [] := FTL.binds (ps := ["self"]) fun _ _ _ _ _ _ us hl => match us, hl with | [_], _ => rfl
  have FTM := fun_mk (st := s_Web_moves) lTM cTM kTM
  have bTM : Binds K _ ["self", "at"] [] := FTM.binds (ps := ["self", "at"]) fun _ _ _ _ _ _ us hl => match us, hl with | [_, _], _ => rfl
  have FTK := fun_mk (st := s_Web_check) lTK cTK kTK
  have bTK : Binds K _ ["self", "at"] [] := FTK.binds (ps := ["self", "at"]) fun _ _ _ _ _ _ us hl => match us, hl with | [_, _], _ => rfl
  have MT : Mk K WC fTI := ⟨p5T, mTI, hTI, p9T⟩
  have LN : LenC K WC fTL := ⟨mTL, hTL⟩
  have MEK : Meth K WC _ fTK := ⟨mTK, hTK, kTK⟩
  have MEM : Meth K WC _ fTM := ⟨mTM, hTM, kTM⟩
  have G0 := ok_is_name (P := l.prog) (w := w) (base := base) D0 T1
  have G1 := ok_is_below (P := l.prog) (w := w) (base := base) D1 T1
  have G2 := ok_is_number (P := l.prog) (w := w) (base := base) D2 T1 D1 G1
  have G3 := okd_is_deed (P := l.prog) (w := w) (base := base) D3 T1 D0 G0 D1 G1 D2 G2
  have G4 := ok_is_visible (P := l.prog) (w := w) (base := base) D4 T1
  have G5 := okd_are_moves (P := l.prog) (w := w) (base := base) D5 T1 D3 G3 D1 G1
  have GTI := okd_Web_init (P := l.prog) (w := w) (base := base) FTI TW C ERG ERB D5 G5 D4 G4
  have GTK := ok_Web_check (P := l.prog) (w := w) (base := base) FTK TW C ERN D1 G1
  have GTL := ok_Web_len (P := l.prog) (w := w) (base := base) FTL TW C
  have GTM := ok_Web_moves (P := l.prog) (w := w) (base := base) FTM TW C MEK bTK GTK
  have G6 := ok_law_cell (P := l.prog) (w := w) (base := base) D6 TG
  have G7 := ok_law_draws (P := l.prog) (w := w) (base := base) D7 TG
  have G8 := ok_law_menu (P := l.prog) (w := w) (base := base) D8 TG D7 G7
  have GS3 := ok_law_same (P := l.prog) (w := w) (base := base) D9 TX 3
  have GS4 := ok_law_same (P := l.prog) (w := w) (base := base) D9 TX 4
  have ZS := okz_law_same (P := l.prog) (w := w) (base := base) D9 TX
  have G10 := ok_law_copy (P := l.prog) (w := w) (base := base) D10 TW
  have G11 := ok_law_moves (P := l.prog) (w := w) (base := base) D11 TG D7 G7
  have G12 := ok_law_all (P := l.prog) (w := w) (base := base) D12 TG D7 G7
  have G13 := ok_law_rows (P := l.prog) (w := w) (base := base) D13 TG D6 G6 D11 G11 D12 G12
  have G14 := ok_law_odd (P := l.prog) (w := w) (base := base) D14 TD
  have G15 := ok_law_spoil (P := l.prog) (w := w) (base := base) D15 TG D7 G7 D14 G14
  have G16 := ok_law_told (P := l.prog) (w := w) (base := base) D16 TO C LN bTL GTL D9 GS3 MEM bTM GTM
  have G17 := ok_law_no_standing (P := l.prog) (w := w) (base := base) D17 TE C D9 ZS MEM bTM GTM
  have G18 := ok_law_kept (P := l.prog) (w := w) (base := base) D18 TO C D10 G10 D9 GS4 D16 G16 D17 G17 MT bTI GTI
  have G19 := ok_law_refused (P := l.prog) (w := w) (base := base) D19 TE C D9 ZS MT bTI GTI
  have G20 := ok_law_too_large (P := l.prog) (w := w) (base := base) D20 TE C D9 ZS MT bTI GTI
  have G21 := ok_law_greatest (P := l.prog) (w := w) (base := base) D21 TO C D9 GS3 LN bTL GTL MEM bTM GTM D17 G17 MT bTI GTI
  exact ok_law (P := l.prog) (w := w) (base := base) D22 TLw D6 G6 D7 G7 D8 G8 D13 G13 D18 G18 D10 G10 D15 G15 D19 G19 D21 G21 D20 G20
theorem walk {l : PySem.W.OpenLaw} {q : Program} {loose : List Str} {XP : (Str → Option Value) → Heap → Prop} {YP : World → Heap → Prop} {d : DefRec} {K : Params → PySem.W.Frag} (hn : l.most = some 63) (hdf : d.params.defaults = [])
    (hY : ∀ (w : World) (h : Heap), YP w h → (K w.params).In h)
    (F : ∀ (w : World) (mg : Str → Option Value) (fa : Addr) (h : Heap), (K w.params).In h → h.Ns mainGlobals mg → mg d.name = some (.ref fa) →
      ∃ fd : FuncData, (∀ (s : Shared) (u : Value), BindsTo s fd ⟨[u], []⟩ [("_law_script", u)]) ∧ ∀ base : Heap, (K w.params).In base → base.Ns mainGlobals mg → FnOk l.prog w (K w.params) mg base CX0 8 fa fd ["_law_script"] (spLaw (K w.params))) :
    PySem.W.WalkO q loose XP YP l.row.toRowW d [] (fun f vs => PySem.call f vs) :=
  L2.walk_of (n := 63) (k := 8) (x := "_law_script") (CX := fun _ => CX0) (sp := fun w => spLaw (K w.params)) hn (by decide) hdf ⟨rfl, by decide, by decide⟩ hY F (fun _ _ a ns hl _ hS => ⟨a, ns, rfl, ⟨hS, hl⟩, fun _ => rfl⟩) fun _ _ _ _ _ z => z
end My
open PySem PySem.W PyProof.Rows in
set_option maxRecDepth 100000 in
set_option maxHeartbeats 0 in
theorem PySem.Challenge.cw_coretower_k01_web_keeps_its_moves_holds : PySem.Challenge.rw_coretower_k01_web_keeps_its_moves.Holds := by
  w_on; o_law; k_head; (case hw => w_witness2)
  k_fill
  refine My.walk (l := PySem.Challenge.rw_coretower_k01_web_keeps_its_moves) rfl rfl (fun w h Y => PySem.W.kIn_of Y) ?F
  case F =>
    intro w mg fa h KX G hmg
    refine' My.all_mk KX G hmg ?a0 ?l0 ?c0 ?k0 ?a1 ?l1 ?c1 ?k1 ?a2 ?l2 ?c2 ?k2 ?a3 ?l3 ?c3 ?k3 ?a4 ?l4 ?c4 ?k4 ?a5 ?l5 ?c5 ?k5 ?a6 ?l6 ?c6 ?k6 ?a7 ?l7 ?c7 ?k7 ?a8 ?l8 ?c8 ?k8 ?a9 ?l9 ?c9 ?k9 ?a10 ?l10 ?c10 ?k10 ?a11 ?l11 ?c11 ?k11 ?a12 ?l12 ?c12 ?k12 ?a13 ?l13 ?c13 ?k13 ?a14 ?l14 ?c14 ?k14 ?a15 ?l15 ?c15 ?k15 ?a16 ?l16 ?c16 ?k16 ?a17 ?l17 ?c17 ?k17 ?a18 ?l18 ?c18 ?k18 ?a19 ?l19 ?c19 ?k19 ?a20 ?l20 ?c20 ?k20 ?a21 ?l21 ?c21 ?k21 ?a22 ?l22 ?c22 ?k22 ?z_isinstance ?z_str ?z_int ?z_bool ?z_tuple ?z_list ?z_len ?z_all ?z_sorted ?z_range ?z_enumerate ?z_abs ?z_min ?z_super ?z_ValueError ?gX4 ?gXL ?eXL ?aG ?xG ?rG ?b1G ?q1G ?q2G ?q3G ?b4G ?b5G ?b6G ?lG ?cG ?kG ?eG ?b7G ?b8G ?b9 ?b14 ?b31 ?p12 ?p13 ?b10G ?b11G ?b12G ?b13G ?b15G ?b17G ?b18G ?b19G ?b25G ?b26G ?aB ?xB ?rB ?b1B ?q1B ?q2B ?q3B ?b4B ?b5B ?b6B ?lB ?cB ?kB ?eB ?b7B ?b8B ?b10B ?b11B ?b12B ?b13B ?b15B ?b17B ?b18B ?b19B ?b25B ?b26B ?aN ?xN ?rN ?b1N ?q1N ?q2N ?q3N ?b4N ?b5N ?b6N ?lN ?cN ?kN ?eN ?b7N ?b8N ?b10N ?b11N ?b12N ?b13N ?b15N ?b17N ?b18N ?b19N ?b25N ?b26N ?aC ?q1C ?q2C ?q3C ?aT ?p1T ?p2T ?p3T ?p4T ?n0T ?n1T ?n2T ?p9T ?p5T ?mTI ?hTI ?lTI ?cTI ?kTI ?mTL ?hTL ?lTL ?cTL ?kTL ?mTM ?hTM ?lTM ?cTM ?kTM ?mTK ?hTK ?lTK ?cTK ?kTK ?sNS ?sNSC ?eNSC ?sBW ?sBWC ?eBWC ?sTL ?sTLC ?eTLC ?sNSBW ?eNSBW ?sBWTL ?eBWTL ?sTLBW ?eTLBW
    (case a0 => k_is)
    (case l0 => k_is)
    (case c0 => k_is)
    (case k0 => k_is)
    (case a1 => k_is)
    (case l1 => k_is)
    (case c1 => k_is)
    (case k1 => k_is)
    (case a2 => k_is)
    (case l2 => k_is)
    (case c2 => k_is)
    (case k2 => k_is)
    (case a3 => k_is)
    (case l3 => k_is)
    (case c3 => k_is)
    (case k3 => k_is)
    (case a4 => k_is)
    (case l4 => k_is)
    (case c4 => k_is)
    (case k4 => k_is)
    (case a5 => k_is)
    (case l5 => k_is)
    (case c5 => k_is)
    (case k5 => k_is)
    (case a6 => k_is)
    (case l6 => k_is)
    (case c6 => k_is)
    (case k6 => k_is)
    (case a7 => k_is)
    (case l7 => k_is)
    (case c7 => k_is)
    (case k7 => k_is)
    (case a8 => k_is)
    (case l8 => k_is)
    (case c8 => k_is)
    (case k8 => k_is)
    (case a9 => k_is)
    (case l9 => k_is)
    (case c9 => k_is)
    (case k9 => k_is)
    (case a10 => k_is)
    (case l10 => k_is)
    (case c10 => k_is)
    (case k10 => k_is)
    (case a11 => k_is)
    (case l11 => k_is)
    (case c11 => k_is)
    (case k11 => k_is)
    (case a12 => k_is)
    (case l12 => k_is)
    (case c12 => k_is)
    (case k12 => k_is)
    (case a13 => k_is)
    (case l13 => k_is)
    (case c13 => k_is)
    (case k13 => k_is)
    (case a14 => k_is)
    (case l14 => k_is)
    (case c14 => k_is)
    (case k14 => k_is)
    (case a15 => k_is)
    (case l15 => k_is)
    (case c15 => k_is)
    (case k15 => k_is)
    (case a16 => k_is)
    (case l16 => k_is)
    (case c16 => k_is)
    (case k16 => k_is)
    (case a17 => k_is)
    (case l17 => k_is)
    (case c17 => k_is)
    (case k17 => k_is)
    (case a18 => k_is)
    (case l18 => k_is)
    (case c18 => k_is)
    (case k18 => k_is)
    (case a19 => k_is)
    (case l19 => k_is)
    (case c19 => k_is)
    (case k19 => k_is)
    (case a20 => k_is)
    (case l20 => k_is)
    (case c20 => k_is)
    (case k20 => k_is)
    (case a21 => k_is)
    (case l21 => k_is)
    (case c21 => k_is)
    (case k21 => k_is)
    (case a22 => k_is)
    (case l22 => k_is)
    (case c22 => k_is)
    (case k22 => k_is)
    (case z_isinstance => k_is)
    (case z_str => k_is)
    (case z_int => k_is)
    (case z_bool => k_is)
    (case z_tuple => k_is)
    (case z_list => k_is)
    (case z_len => k_is)
    (case z_all => k_is)
    (case z_sorted => k_is)
    (case z_range => k_is)
    (case z_enumerate => k_is)
    (case z_abs => k_is)
    (case z_min => k_is)
    (case z_super => k_is)
    (case z_ValueError => k_is)
    (case gX4 => k_is)
    (case gXL => k_is)
    (case eXL => decide +kernel)
    (case aG => k_is)
    (case xG => k_is)
    (case rG => decide +kernel)
    (case b1G => k_is)
    (case q1G => k_is)
    (case q2G => k_is)
    (case q3G => k_is)
    (case b4G => k_is)
    (case b5G => k_is)
    (case b6G => k_is)
    (case lG => k_is)
    (case cG => k_is)
    (case kG => k_is)
    (case eG => k_is)
    (case b7G => ks_is)
    (case b8G => k_is)
    (case b9 => k_is)
    (case b14 => first | rfl | decide +kernel)
    (case b31 => decide +kernel)
    (case p12 => k_is)
    (case p13 => k_is)
    (case b10G => k_is)
    (case b11G => k_is)
    (case b12G => rfl)
    (case b13G => first | rfl | decide +kernel)
    (case b15G => k_is)
    (case b17G => k_is)
    (case b18G => k_is)
    (case b19G => k_is)
    (case b25G => k_is)
    (case b26G => k_is)
    (case aB => k_is)
    (case xB => k_is)
    (case rB => decide +kernel)
    (case b1B => k_is)
    (case q1B => k_is)
    (case q2B => k_is)
    (case q3B => k_is)
    (case b4B => k_is)
    (case b5B => k_is)
    (case b6B => k_is)
    (case lB => k_is)
    (case cB => k_is)
    (case kB => k_is)
    (case eB => k_is)
    (case b7B => ks_is)
    (case b8B => k_is)
    (case b10B => k_is)
    (case b11B => k_is)
    (case b12B => rfl)
    (case b13B => first | rfl | decide +kernel)
    (case b15B => k_is)
    (case b17B => k_is)
    (case b18B => k_is)
    (case b19B => k_is)
    (case b25B => k_is)
    (case b26B => k_is)
    (case aN => k_is)
    (case xN => k_is)
    (case rN => decide +kernel)
    (case b1N => k_is)
    (case q1N => k_is)
    (case q2N => k_is)
    (case q3N => k_is)
    (case b4N => k_is)
    (case b5N => k_is)
    (case b6N => k_is)
    (case lN => k_is)
    (case cN => k_is)
    (case kN => k_is)
    (case eN => k_is)
    (case b7N => ks_is)
    (case b8N => k_is)
    (case b10N => k_is)
    (case b11N => k_is)
    (case b12N => rfl)
    (case b13N => first | rfl | decide +kernel)
    (case b15N => k_is)
    (case b17N => k_is)
    (case b18N => k_is)
    (case b19N => k_is)
    (case b25N => k_is)
    (case b26N => k_is)
    (case aC => k_is)
    (case q1C => k_is)
    (case q2C => k_is)
    (case q3C => k_is)
    (case aT => k_is)
    (case p1T => k_is)
    (case p2T => k_is)
    (case p3T => k_is)
    (case p4T => k_is)
    (case n0T => k_is)
    (case n1T => k_is)
    (case n2T => k_is)
    (case p9T => k_is)
    (case p5T => k_is)
    (case mTI => k_is)
    (case hTI => k_is)
    (case lTI => k_is)
    (case cTI => k_is)
    (case kTI => k_is)
    (case mTL => k_is)
    (case hTL => k_is)
    (case lTL => k_is)
    (case cTL => k_is)
    (case kTL => k_is)
    (case mTM => k_is)
    (case hTM => k_is)
    (case lTM => k_is)
    (case cTM => k_is)
    (case kTM => k_is)
    (case mTK => k_is)
    (case hTK => k_is)
    (case lTK => k_is)
    (case cTK => k_is)
    (case kTK => k_is)
    (case sNS => first | rfl | k_is)
    (case sNSC => first | rfl | k_is)
    (case eNSC => decide +kernel)
    (case sBW => first | rfl | k_is)
    (case sBWC => first | rfl | k_is)
    (case eBWC => decide +kernel)
    (case sTL => first | rfl | k_is)
    (case sTLC => first | rfl | k_is)
    (case eTLC => decide +kernel)
    (case sNSBW => first | rfl | k_is)
    (case eNSBW => decide +kernel)
    (case sBWTL => first | rfl | k_is)
    (case eBWTL => decide +kernel)
    (case sTLBW => first | rfl | k_is)
    (case eTLBW => decide +kernel)

