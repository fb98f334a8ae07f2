"""Chipyard: chips that are lent along lines, and which debts can be paid."""
